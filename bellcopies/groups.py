"""Closed groups of people, how signs spread, and the cheapest agreement (point 29)."""

from bellcopies.cheapest import check_prices, cheapest_win, is_log_for
from bellcopies.common import ascends, at_first, is_row, is_whole
from bellcopies.errors import BadGroup
from bellcopies.webs import check_log, check_web, logged, reach
from bellcopies.winning import closed_around, closed_groups


def check_group(web, some):
    """Raise an error unless these are a web and an ascending tuple of its people."""
    check_web(web)
    if not is_row(some, 0, web[0], 1, web[0]) or not ascends(some):
        raise BadGroup("a group is an ascending tuple of people")


def cheapest_agreement(web, prices):
    """The triple (price, person, log) of the cheapest win of all, None if nobody can win."""
    best = None
    for person in range(1, web[0] + 1):
        found = cheapest_win(web, prices, person)
        if found is not None and (best is None or found[0] < best[0]):
            best = (found[0], person, found[1])
    return best


def closed_sets(web):
    """The ascending tuple of all closed ascending tuples of people, the empty one too."""
    check_web(web)
    return tuple(sorted(closed_groups(web)))


def closure(web, some):
    """The least closed tuple of people that has all of these."""
    check_group(web, some)
    return tuple(closed_around(web, list(some)))


def inside(web, some):
    """The greatest closed tuple of people that has none but some of these."""
    check_group(web, some)
    people = list(range(1, web[0] + 1))
    # Whoever can come to say the sign of somebody outside is in no closed set without this one.
    touched = reach(web[1], [person for person in people if person not in some])
    return tuple([person for person in people if person not in touched])


def spreads(web, log):
    """The numbers of people who say the sign of each person, before the log and behind each entry."""
    check_web(web)
    check_log(web, log)
    people = at_first(web[0])
    rows = [people]
    for index in log:
        rows.append(logged(web, rows[-1], (index,)))
    return tuple([tuple([row.count(person) for person in people]) for row in rows])


def cheap_agreement(web, prices):
    """The triple (price, person, log) of a cheapest log behind which all say one sign, None if nobody can win.

    Of the people whose sign it can be for that price it is the least one.
    """
    check_web(web)
    check_prices(web, prices)
    return cheapest_agreement(web, prices)


def shows_agreement(web, prices, value):
    """Whether a value is the triple of a cheapest agreement, or rightly None."""
    check_web(web)
    check_prices(web, prices)
    best = cheapest_agreement(web, prices)
    if best is None:
        return value is None
    if not isinstance(value, tuple) or len(value) != 3:
        return False
    price, person, log = value
    if not is_whole(person, best[1], best[1]):
        return False
    return is_log_for(web, prices, best[0], (person,) * web[0], (price, log))
