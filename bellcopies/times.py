"""Webs whose arcs can be used at some times only (point 23)."""

from bellcopies.common import check_person, is_row, never_falls
from bellcopies.errors import BadTimes
from bellcopies.webs import check_web, leads


def check_times(web, times):
    """Raise BadTimes unless this is a table of times of the web."""
    if not isinstance(times, tuple) or len(times) != len(web[1]):
        raise BadTimes(None)
    for index, pair in enumerate(times):
        if not is_row(pair, 2, 2, 0, 99) or pair[0] > pair[1]:
            raise BadTimes(index)


def check_timed_path(web, times, person, goal):
    """Raise an error unless a timed path can be asked for with these arguments."""
    check_web(web)
    check_times(web, times)
    check_person(web[0], person)
    check_person(web[0], goal)


def earliest_ways(web, times, person, start):
    """A dict from each person to the pair (time, way) of an earliest way of a sign that starts at a time.

    The way is a tuple of pairs (arc, time); people whom the sign cannot reach are not in the dict.
    """
    found = {person: (start, ())}
    for _ in range(web[0] - 1):
        for index, (source, taker) in enumerate(web[1]):
            first, last = times[index]
            if source in found and found[source][0] <= last:
                now = max(found[source][0], first)
                if taker not in found or now < found[taker][0]:
                    found[taker] = (now, found[source][1] + ((index, now),))
    return found


def is_timed(web, times, value):
    """Whether a value is a tuple of pairs (arc, time) at times when the arcs can be used, none before the last."""
    if not isinstance(value, tuple) or not all(is_row(pair, 2, 2, 0, 99) for pair in value):
        return False
    if any(index >= len(web[1]) for index, _ in value):
        return False
    if not all(times[index][0] <= now <= times[index][1] for index, now in value):
        return False
    return never_falls([now for _, now in value])


def earliest(web, times, person):
    """For each person the least time at which this one can come to say a person's sign, None if never."""
    check_web(web)
    check_times(web, times)
    check_person(web[0], person)
    found = earliest_ways(web, times, person, 0)
    return tuple([found[other][0] if other in found else None for other in range(1, web[0] + 1)])


def latest_start(web, times, person):
    """The greatest time before which nothing need be used for all to say a person's sign, None if they cannot."""
    check_web(web)
    check_times(web, times)
    check_person(web[0], person)
    for start in range(99, -1, -1):
        if len(earliest_ways(web, times, person, start)) == web[0]:
            return start
    return None


def timed_path(web, times, person, goal):
    """A way of pairs (arc, time) by which a sign arrives as early as can be, None if there is none."""
    check_timed_path(web, times, person, goal)
    found = earliest_ways(web, times, person, 0)
    return found[goal][1] if goal in found else None


def shows_timed_path(web, times, person, goal, value):
    """Whether a value is a way by which a sign arrives as early as can be, or rightly None."""
    check_timed_path(web, times, person, goal)
    found = earliest_ways(web, times, person, 0)
    if value is None:
        return goal not in found
    if goal not in found or not is_timed(web, times, value):
        return False
    # For the same person the way is (), even if there are ways around.
    if person == goal or value == ():
        return person == goal and value == ()
    return value[-1][1] == found[goal][0] and leads(web, [index for index, _ in value], person, goal)
