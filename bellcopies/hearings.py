"""Heard rows: what is known of bells from what they made of rows (point 18)."""

from bellcopies.common import followed, is_row
from bellcopies.errors import BadHearings, NoFit, TooMany
from bellcopies.stairs import all_stairs


def is_hearing(value):
    """Whether a value is a pair of signs of one length."""
    if not isinstance(value, tuple) or len(value) != 2:
        return False
    if not is_row(value[0], 2, 8, 0, 99) or not is_row(value[1], 2, 8, 0, 99):
        return False
    return len(value[0]) == len(value[1])


def check_hearings(hearings):
    """Raise BadHearings unless these are hearings."""
    if not isinstance(hearings, tuple) or not 1 <= len(hearings) <= 6:
        raise BadHearings(None)
    for index, pair in enumerate(hearings):
        if not is_hearing(pair) or len(pair[0]) != len(hearings[0][0]):
            raise BadHearings(index)


def check_short_hearings(hearings):
    """Raise an error unless these are hearings short enough to try all stairs."""
    check_hearings(hearings)
    if len(hearings[0][0]) > 6:
        raise TooMany(6)


def fits(row, hearings):
    """Whether what makes this row of the first one made these hearings."""
    return all(followed(before, row) == behind for before, behind in hearings)


def fitting_stairs(hearings):
    """The ascending list of all stairs that fit these hearings."""
    return [stair for stair in all_stairs(len(hearings[0][0])) if fits(stair, hearings)]


def fitting(hearings):
    """The ascending tuple of all stairs that fit all hearings."""
    check_short_hearings(hearings)
    return tuple(fitting_stairs(hearings))


def first_unfit(hearings):
    """The least number of hearings, from the first one on, that no stair fits, None if some stair fits all."""
    check_short_hearings(hearings)
    for many in range(1, len(hearings) + 1):
        if not fitting_stairs(hearings[:many]):
            return many
    return None


def surely(hearings):
    """For each person, whose sign this person must say, None where stairs that fit differ."""
    check_short_hearings(hearings)
    found = fitting_stairs(hearings)
    if not found:
        raise NoFit("no stair fits all of these hearings")
    people = []
    for at, number in enumerate(found[0]):
        people.append(number if all(stair[at] == number for stair in found) else None)
    return tuple(people)
