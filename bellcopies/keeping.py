"""People who keep all signs that they have ever heard (point 31)."""

from bellcopies.common import smallest_way
from bellcopies.webs import check_log, check_people, check_web


def own_sets(web):
    """The sets heard at first: each person has heard the own sign."""
    return tuple([(person,) for person in range(1, web[0] + 1)])


def heard_behind(web, sets, index):
    """The sets heard behind one entry more."""
    source, taker = web[1][index]
    both = tuple(sorted(set(sets[source - 1] + sets[taker - 1])))
    return sets[:taker - 1] + (both,) + sets[taker:]


def smallest_full_log(web):
    """The smallest of the shortest logs behind which all have heard all, None if there is none."""

    def is_full(sets):
        """Whether all have heard all."""
        return all(len(people) == web[0] for people in sets)

    def after(sets, index):
        """The sets behind one entry more."""
        return heard_behind(web, sets, index)

    return smallest_way(own_sets(web), is_full, list(range(len(web[1]))), after)


def heard_sets(web, log):
    """For each person the ascending tuple of the people whose signs this person has heard in the end."""
    check_web(web)
    check_log(web, log)
    sets = own_sets(web)
    for index in log:
        sets = heard_behind(web, sets, index)
    return sets


def full_log(web):
    """The smallest of the shortest logs behind which all have heard all, None if there is none."""
    check_web(web)
    check_people(web, 4)
    return smallest_full_log(web)


def full_count(web):
    """The length of a shortest log behind which all have heard all, None if there is none."""
    check_web(web)
    check_people(web, 4)
    log = smallest_full_log(web)
    return None if log is None else len(log)
