"""Logs again and again, and logs whose entries can be exchanged (point 25)."""

from bellcopies.common import at_first, check_count, followed, repeated
from bellcopies.webs import check_log, check_web, logged


def check_web_log(web, log):
    """Raise an error unless these are a web and a log of it."""
    check_web(web)
    check_log(web, log)


def unlike_powers(web, log):
    """The list of the rows behind each number of times, from 0 on, and the index of the row that comes next."""
    row = logged(web, at_first(web[0]), log)
    rows = []
    now = at_first(web[0])
    while now not in rows:
        rows.append(now)
        now = followed(now, row)
    return rows, rows.index(now)


def can_exchange(web, one, other):
    """Whether two entries side by side can be exchanged."""
    _, taker = web[1][one]
    _, other_taker = web[1][other]
    return taker not in web[1][other] and other_taker not in web[1][one]


def sets_side_by_side(web):
    """The list of all tuples of arcs, by their indexes, of which any two can be exchanged."""
    sets = [()]
    for index in range(len(web[1])):
        sets = sets + [some + (index,) for some in sets if all(can_exchange(web, index, other) for other in some)]
    return sets


def log_power(web, log, many):
    """For each person, whose first sign this person says behind the log so many times."""
    check_web_log(web, log)
    check_count(many, 100)
    return repeated(logged(web, at_first(web[0]), log), many)


def log_rest(web, log):
    """The pair (before, length): from so many times on, each further so many times change nothing."""
    check_web_log(web, log)
    rows, before = unlike_powers(web, log)
    return before, len(rows) - before


def kept_signs(web, log):
    """The ascending tuple of the people whose signs are said behind each number of times."""
    check_web_log(web, log)
    # A sign that is lost never comes back, and the last of these rows comes again and again.
    rows, _ = unlike_powers(web, log)
    return tuple(sorted(set(rows[-1])))


def sorted_log(web, log):
    """The smallest log that comes from a log by exchanging neighbors that can be exchanged."""
    check_web_log(web, log)
    left = list(log)
    found = []
    while left:
        free = []
        for at, index in enumerate(left):
            if all(can_exchange(web, index, earlier) for earlier in left[:at]):
                free.append(index)
        # An arc cannot be exchanged with itself, so the free entry is the first one with its arc.
        best = min(free)
        left.remove(best)
        found.append(best)
    return tuple(found)


def log_classes(web, many):
    """The number of classes of logs of so many entries that come from one another by exchanging neighbors."""
    check_web(web)
    check_count(many, 5)
    sets = sets_side_by_side(web)
    counts = [1]
    for entries in range(1, many + 1):
        total = 0
        # A class that several arcs can begin counts once for each of them: the sets of two take back
        # what is too much, those of three give back what is too much of that, and so on.
        for some in sets:
            if 1 <= len(some) <= entries:
                classes = counts[entries - len(some)]
                total += classes if len(some) in (1, 3, 5) else -classes
        counts.append(total)
    return counts[many]
