"""Rows of signs that logs make of others (point 20)."""

from bellcopies.common import at_first, check_signs
from bellcopies.errors import BadHearings
from bellcopies.goals import smallest_log
from bellcopies.hearings import check_hearings, fits
from bellcopies.webs import check_people, check_web, next_rows


def web_fitting(web, hearings):
    """The ascending tuple of all goals that logs reach and that fit all hearings."""
    check_web(web)
    check_hearings(hearings)
    if len(hearings[0][0]) != web[0]:
        raise BadHearings(None)
    check_people(web, 4)
    return tuple([goal for goal in sorted(next_rows(web, at_first(web[0]))) if fits(goal, hearings)])


def patterns(web, signs):
    """The ascending tuple of all rows of signs that logs make of these."""
    check_web(web)
    check_signs(signs, web[0], web[0])
    check_people(web, 4)
    return tuple(sorted(next_rows(web, signs)))


def pattern_log(web, signs, goal):
    """The smallest of the shortest logs that make the second signs of the first, None if none does."""
    check_web(web)
    check_signs(signs, web[0], web[0])
    check_signs(goal, web[0], web[0])
    check_people(web, 4)
    return smallest_log(web, signs, goal)
