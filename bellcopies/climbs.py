"""Climbs: the bells by which a sign comes from one person to another (point 3)."""

from bellcopies.common import ascends, check_bells, check_person, check_size, is_row
from bellcopies.errors import BadPerson


def check_climb(size, bells, first, last):
    """Raise an error unless a climb can be asked for with these arguments."""
    check_size(size)
    check_bells(size, bells)
    check_person(size, first)
    check_person(size, last)
    if first > last:
        raise BadPerson("the first person stands behind the last one")


def earliest_climb(bells, first, last):
    """The climb that takes each next bell as early as it can, None if there is no climb."""
    indexes = []
    person = first
    for index, bell in enumerate(bells):
        if person < last and bell == person + 1:
            indexes.append(index)
            person = bell
    if person < last:
        return None
    return tuple(indexes)


def climb(size, bells, first, last):
    """A climb from the first person to the last, None if there is none."""
    check_climb(size, bells, first, last)
    return earliest_climb(bells, first, last)


def shows_climb(size, bells, first, last, value):
    """Whether a value is a climb from the first person to the last, or rightly None."""
    check_climb(size, bells, first, last)
    if value is None:
        return earliest_climb(bells, first, last) is None
    steps = last - first
    if not is_row(value, steps, steps, 0, len(bells) - 1) or not ascends(value):
        return False
    return [bells[index] for index in value] == list(range(first + 1, last + 1))
