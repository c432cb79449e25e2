"""The kinds of arguments: a good value of each, and values that are not allowed with their errors.

A kind is a pair (good value, tuple of (bad value, error class, fields of the error)). The good
values fit together: they are for 3 people.
"""

from bellcopies.errors import BadBells, BadCount, BadPair, BadPerson, BadSigns, BadSize, BadStair
from tests.support import NOT_INTEGERS, NOT_TUPLES, with_bad_entries

HUGE = 10 ** 40


def kind(good, error, bads):
    """A kind whose bad values all have one error without fields."""
    return good, tuple((bad, error, {}) for bad in bads)


def second(first_kind, others):
    """The kind of a second row, for which these rows are bad only by their length."""
    good, bads = first_kind
    return good, bads + tuple((other, BadPair, {}) for other in others)


def count_to(most):
    """The kind of an integer from 0 to the most."""
    return kind(2, BadCount, NOT_INTEGERS + (-1, -2, most + 1, HUGE, -HUGE))


SIZE = kind(3, BadSize, NOT_INTEGERS + (-3, 0, 1, 9, HUGE, -HUGE))

BELLS = kind((2, 3, 2), BadBells, NOT_TUPLES + with_bad_entries((2, 3, 2)) + (
    (0,), (1,), (4,), (-2,), (HUGE,), (2, 3, 4), (2, 1, 3), (2,) * 61, (2, 3) * 200, ((2, 3),),
))

SIGNS = kind((5, 0, 99), BadSigns, NOT_TUPLES + with_bad_entries((5, 0, 99)) + (
    (), (5,), (1,) * 9, (-1, 0, 0), (0, 0, 100), (HUGE, 0, 0), ((5, 0, 99),),
))

PERSON = kind(2, BadPerson, NOT_INTEGERS + (-1, 0, 4, HUGE, -HUGE))

# The last person of a climb is 2, so that 3 cannot be the first one, nor 1 the last one.
FIRST = kind(2, BadPerson, NOT_INTEGERS + (-1, 0, 3, 4, HUGE, -HUGE))
LAST = kind(2, BadPerson, NOT_INTEGERS + (-1, 0, 1, 4, HUGE, -HUGE))

STAIR = kind((1, 1, 3), BadStair, NOT_TUPLES + with_bad_entries((1, 1, 3)) + (
    (), (1,), (1,) * 9, (0, 1, 1), (2, 2, 3), (1, 2, 1), (1, 3, 3), (1, 1, 4), (1, 1, 0), (1, 1, -1), (1, 1, HUGE),
    (1, 0), (1, 3), (-HUGE, 1, 1), ((1, 1, 3),),
))
SECOND_STAIR = second(STAIR, ((1, 1), (1, 2, 3, 4), (1,) * 8))
