"""Starts: rows of signs that tell stairs apart by what these make of them (point 19)."""

from bellcopies.common import check_size, followed, is_row, is_stair, is_whole
from bellcopies.errors import BadCount, BadStarts, TooMany


def check_rows_of_signs(size, starts):
    """Raise BadStarts unless these are at most 6 rows of signs of so many people."""
    if not isinstance(starts, tuple) or len(starts) > 6:
        raise BadStarts("starts are a tuple of at most 6 rows of signs")
    if not all(is_row(signs, size, size, 0, 99) for signs in starts):
        raise BadStarts("each start has a sign from 0 to 99 for each person")


def check_starts(size, starts):
    """Raise an error unless these are a size and starts of it, and not too many people."""
    check_size(size)
    check_rows_of_signs(size, starts)
    if size > 5:
        raise TooMany(5)


def check_kinds(size, kinds):
    """Raise an error unless these are a size and a number of kinds of signs, and not too many people."""
    check_size(size)
    if not is_whole(kinds, 2, 4):
        raise BadCount("the kinds of signs are an integer from 2 to 4")
    if size > 4:
        raise TooMany(4)


def people_alike(size, starts):
    """The first two people who say the same in each start, None if there are none.

    Two stairs make the same of all starts exactly if they differ in such people alone; and two
    stairs that differ in just one place may have any two people there.
    """
    rows = [tuple([signs[person - 1] for signs in starts]) for person in range(1, size + 1)]
    for place, row in enumerate(rows, 1):
        if row in rows[:place - 1]:
            return rows.index(row) + 1, place
    return None


def smallest_starts(size, kinds):
    """The smallest tuple of as few starts with so many kinds of signs as tell all stairs apart."""
    rows = [()]
    for _ in range(size):
        rows = [row + (sign,) for row in rows for sign in range(kinds)]
    some = [()]
    telling = []
    while not telling:
        some = [starts + (row,) for starts in some for row in rows]
        telling = [starts for starts in some if people_alike(size, starts) is None]
    return telling[0]


def tells_all(size, starts):
    """Whether no two stairs make the same of all starts."""
    check_starts(size, starts)
    return people_alike(size, starts) is None


def not_told(size, starts):
    """Two unlike stairs that make the same of all starts, None if there are none."""
    check_starts(size, starts)
    people = people_alike(size, starts)
    if people is None:
        return None
    before = (1,) * (size - 1)
    return before + (people[0],), before + (people[1],)


def shows_not_told(size, starts, value):
    """Whether a value is a pair of unlike stairs that make the same of all starts, or rightly None."""
    check_starts(size, starts)
    if value is None:
        return people_alike(size, starts) is None
    if not isinstance(value, tuple) or len(value) != 2:
        return False
    one, other = value
    if not is_stair(one) or not is_stair(other) or len(one) != size or len(other) != size:
        return False
    return one != other and all(followed(signs, one) == followed(signs, other) for signs in starts)


def fewest_starts(size, kinds):
    """The least number of starts with so many kinds of signs that tell all stairs apart."""
    check_kinds(size, kinds)
    return len(smallest_starts(size, kinds))


def best_starts(size, kinds):
    """The smallest tuple of as few starts as can tell all stairs apart."""
    check_kinds(size, kinds)
    return smallest_starts(size, kinds)
