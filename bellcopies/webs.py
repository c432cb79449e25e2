"""Webs, in which arcs tell who can take over from whom, and logs of such take-overs (point 13)."""

from bellcopies.common import at_first, check_person, check_signs, is_row, is_whole
from bellcopies.errors import BadLog, BadWeb, TooMany


def is_arc(size, value):
    """Whether a value is a pair of two unlike people."""
    return is_row(value, 2, 2, 1, size) and value[0] != value[1]


def check_web(web):
    """Raise BadWeb unless this is a web."""
    if not isinstance(web, tuple) or len(web) != 2:
        raise BadWeb(None)
    size, arcs = web
    if not is_whole(size, 1, 6) or not isinstance(arcs, tuple) or len(arcs) > 12:
        raise BadWeb(None)
    for index, arc in enumerate(arcs):
        if not is_arc(size, arc) or arc in arcs[:index]:
            raise BadWeb(index)


def check_log(web, log):
    """Raise BadLog unless this is a log of the web."""
    if not is_row(log, 0, 60, 0, len(web[1]) - 1):
        raise BadLog("a log is a tuple of at most 60 indexes of arcs")


def check_people(web, most):
    """Raise TooMany if a web has more than the most people."""
    if web[0] > most:
        raise TooMany(most)


def logged(web, row, log):
    """The row behind all entries of a log."""
    entries = list(row)
    for index in log:
        source, person = web[1][index]
        entries[person - 1] = entries[source - 1]
    return tuple(entries)


def next_rows(web, row):
    """A dict from each row that logs make of this one to the list of the rows behind each arc from there."""
    found = {}
    level = [row]
    while level:
        following = []
        for now in level:
            if now not in found:
                found[now] = [logged(web, now, (index,)) for index in range(len(web[1]))]
                following.extend(found[now])
        level = following
    return found


def spread(arcs, people):
    """The ascending list of these people and of all to whom an arc leads from one of them."""
    return sorted(set(people + [taker for source, taker in arcs if source in people]))


def reach(arcs, people):
    """The ascending list of these people and of all to whom ways of arcs lead from them."""
    found = sorted(people)
    following = spread(arcs, found)
    while following != found:
        found = following
        following = spread(arcs, found)
    return found


def leads(web, indexes, person, goal):
    """Whether the arcs at these indexes, one after another, lead from the one person to the other."""
    at = person
    for index in indexes:
        source, taker = web[1][index]
        if source != at:
            return False
        at = taker
    return at == goal


def web_ring(web, log):
    """For each person, whose first sign this person says behind the log."""
    check_web(web)
    check_log(web, log)
    return logged(web, at_first(web[0]), log)


def web_said(web, signs, log):
    """The signs said behind the log, where these were said at first."""
    check_web(web)
    check_signs(signs, web[0], web[0])
    check_log(web, log)
    return logged(web, signs, log)


def trace(web, log, person):
    """The indexes of the entries of the log by which the sign of a person in the end has come."""
    check_web(web)
    check_log(web, log)
    check_person(web[0], person)
    found = []
    speaker = person
    for at in range(len(log) - 1, -1, -1):
        source, taker = web[1][log[at]]
        if taker == speaker:
            found.append(at)
            speaker = source
    return tuple(found[::-1])


def left_over(web, log):
    """The ascending tuple of the people whose signs are still said in the end."""
    check_web(web)
    check_log(web, log)
    return tuple(sorted(set(logged(web, at_first(web[0]), log))))


def needless_entries(web, log):
    """The indexes of all entries that can be left out, each by itself."""
    check_web(web)
    check_log(web, log)
    first = at_first(web[0])
    row = logged(web, first, log)
    found = []
    for at in range(len(log)):
        if logged(web, first, log[:at] + log[at + 1:]) == row:
            found.append(at)
    return tuple(found)
