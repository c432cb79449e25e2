"""Arcs without which a sign cannot come to somebody, and ways without a common arc (point 24)."""

from bellcopies.common import ascends, check_person, is_row, smallest_way
from bellcopies.errors import BadPerson
from bellcopies.webs import check_web, leads, reach


def check_ends(web, person, goal):
    """Raise an error unless these are a web and two unlike people of it."""
    check_web(web)
    check_person(web[0], person)
    check_person(web[0], goal)
    if person == goal:
        raise BadPerson("the two people are unlike")


def way_over(arcs, person, goal):
    """The steps of a shortest way, None if there is none; arcs is a dict from steps to the arcs they lead over."""

    def is_goal(at):
        """Whether the way is at its goal."""
        return at == goal

    def after(at, step):
        """Where a step leads, which may be nowhere."""
        source, taker = arcs[step]
        return taker if source == at else at

    return smallest_way(person, is_goal, sorted(arcs), after)


def steps_left(web, rooms, stream):
    """A dict from steps to arcs: over an arc with room left by its index, and back over one in use by -1 less it."""
    steps = {}
    for index, arc in enumerate(web[1]):
        if stream[index] < rooms[index]:
            steps[index] = arc
        if stream[index] > 0:
            steps[-1 - index] = arc[::-1]
    return steps


def send_along(rooms, stream, steps):
    """Add to a stream as much as these steps, one after another, have room for."""
    most = min([rooms[step] - stream[step] if step >= 0 else stream[-1 - step] for step in steps])
    for step in steps:
        if step >= 0:
            stream[step] += most
        else:
            stream[-1 - step] -= most


def strongest_stream(web, rooms, person, goal):
    """For each arc how much streams over it, if as much as can be goes from the person to the goal.

    The rooms tell for each arc how much it takes at most.
    """
    stream = [0] * len(web[1])
    steps = way_over(steps_left(web, rooms, stream), person, goal)
    # A step back over an arc takes back its use, and so makes room for more.
    while steps is not None:
        send_along(rooms, stream, steps)
        steps = way_over(steps_left(web, rooms, stream), person, goal)
    return stream


def hindering_arcs(web, rooms, person, goal):
    """The ascending tuple of arcs that hinder a sign on its way from the person to the goal.

    They have as little room in all as such arcs can have.
    """
    steps = steps_left(web, rooms, strongest_stream(web, rooms, person, goal))
    near = reach(list(steps.values()), [person])
    # Each arc that leads out of these people is filled by the stream, which does not come back over any other.
    return tuple([index for index, (source, taker) in enumerate(web[1]) if source in near and taker not in near])


def fewest_arcs(web, person, goal):
    """The ascending tuple of as few arcs as can be that hinder a sign on its way from the person to the goal."""
    return hindering_arcs(web, [1] * len(web[1]), person, goal)


def hinder(web, person, goal):
    """As few arcs as can be without which the sign of the person cannot come to the goal."""
    check_ends(web, person, goal)
    return fewest_arcs(web, person, goal)


def ways_apart(web, person, goal):
    """As many ways from the person to the goal as can be without a common arc."""
    check_ends(web, person, goal)
    stream = strongest_stream(web, [1] * len(web[1]), person, goal)
    left = {index: arc for index, arc in enumerate(web[1]) if stream[index] > 0}
    ways = []
    indexes = way_over(left, person, goal)
    while indexes is not None:
        ways.append(indexes)
        left = {index: left[index] for index in left if index not in indexes}
        indexes = way_over(left, person, goal)
    return tuple(ways)


def shows_hinder(web, person, goal, value):
    """Whether a value is as few arcs as can be that hinder a sign on its way."""
    check_ends(web, person, goal)
    fewest = len(fewest_arcs(web, person, goal))
    if not is_row(value, fewest, fewest, 0, len(web[1]) - 1) or not ascends(value):
        return False
    left = [arc for index, arc in enumerate(web[1]) if index not in value]
    return goal not in reach(left, [person])


def shows_ways_apart(web, person, goal, value):
    """Whether a value is as many ways as can be without a common arc."""
    check_ends(web, person, goal)
    if not isinstance(value, tuple) or len(value) != len(fewest_arcs(web, person, goal)):
        return False
    if not all(is_row(way, 1, len(web[1]), 0, len(web[1]) - 1) for way in value):
        return False
    indexes = [index for way in value for index in way]
    return len(set(indexes)) == len(indexes) and all(leads(web, way, person, goal) for way in value)
