"""Bells that do the same, and bells that can be left out (point 5)."""

from bellcopies.common import ascends, at_first, check_bells, check_size, is_row, is_whole
from bellcopies.rows import rung
from bellcopies.stairs import bells_needed, bells_of


def check_two_bells(size, one, other):
    """Raise an error unless these are a size and two rows of bells."""
    check_size(size)
    check_bells(size, one)
    check_bells(size, other)


def people_told(size, one, other):
    """The people who say another's sign behind the one than behind the other."""
    stair = rung(at_first(size), one)
    against = rung(at_first(size), other)
    return [person for person in range(1, size + 1) if stair[person - 1] != against[person - 1]]


def stair_of_some(size, bells, indexes):
    """The stair of the bells at these indexes alone."""
    return rung(at_first(size), [bells[index] for index in indexes])


def same(size, one, other):
    """Whether two rows of bells have the same stair."""
    check_two_bells(size, one, other)
    return rung(at_first(size), one) == rung(at_first(size), other)


def telling(size, one, other):
    """A person who tells the two rows of bells apart, None if they have the same stair."""
    check_two_bells(size, one, other)
    people = people_told(size, one, other)
    return people[0] if people else None


def shows_telling(size, one, other, value):
    """Whether a value is a person who tells the two rows of bells apart, or rightly None."""
    check_two_bells(size, one, other)
    people = people_told(size, one, other)
    if value is None:
        return not people
    return is_whole(value, 1, size) and value in people


def shortened(size, bells):
    """The smallest of the shortest rows of bells with the stair of these."""
    check_size(size)
    check_bells(size, bells)
    return bells_of(rung(at_first(size), bells))


def needless(size, bells):
    """The indexes of all bells that can be left out, each by itself."""
    check_size(size)
    check_bells(size, bells)
    stair = rung(at_first(size), bells)
    indexes = []
    for index in range(len(bells)):
        if rung(at_first(size), bells[:index] + bells[index + 1:]) == stair:
            indexes.append(index)
    return tuple(indexes)


def core(size, bells):
    """The indexes of as few bells as can be that alone have the same stair."""
    check_size(size)
    check_bells(size, bells)
    stair = rung(at_first(size), bells)
    kept = list(range(len(bells)))
    # A bell that is needed stays needed when others go, so each is tried but once;
    # and bells none of which is needless are as few as can be.
    for index in range(len(bells)):
        fewer = [other for other in kept if other != index]
        if stair_of_some(size, bells, fewer) == stair:
            kept = fewer
    return tuple(kept)


def shows_core(size, bells, value):
    """Whether a value is a core of the bells."""
    check_size(size)
    check_bells(size, bells)
    stair = rung(at_first(size), bells)
    needed = bells_needed(stair)
    if not is_row(value, needed, needed, 0, len(bells) - 1) or not ascends(value):
        return False
    return stair_of_some(size, bells, value) == stair
