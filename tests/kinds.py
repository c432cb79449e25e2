"""The kinds of arguments: a good value of each, and values that are not allowed with their errors.

A kind is a pair (good value, tuple of (bad value, error class, fields of the error)). The good
values fit together: they are for 3 people.
"""

from bellcopies.errors import (
    BadBells, BadCount, BadLift, BadLog, BadMoves, BadPair, BadPerson, BadRising, BadSigns, BadSize, BadStair, BadWeb,
)
from tests.support import NOT_INTEGERS, NOT_TUPLES, with_bad_entries

HUGE = 10 ** 40


def kind(good, error, bads):
    """A kind whose bad values all have one error without fields."""
    return good, tuple((bad, error, {}) for bad in bads)


def second(first_kind, others):
    """The kind of a second row, for which these rows are bad only by their length."""
    good, bads = first_kind
    return good, bads + tuple((other, BadPair, {}) for other in others)


def count_to(most):
    """The kind of an integer from 0 to the most."""
    return kind(2, BadCount, NOT_INTEGERS + (-1, -2, most + 1, HUGE, -HUGE))


SIZE = kind(3, BadSize, NOT_INTEGERS + (-3, 0, 1, 9, HUGE, -HUGE))

BELLS = kind((2, 3, 2), BadBells, NOT_TUPLES + with_bad_entries((2, 3, 2)) + (
    (0,), (1,), (4,), (-2,), (HUGE,), (2, 3, 4), (2, 1, 3), (2,) * 61, (2, 3) * 200, ((2, 3),),
))

SIGNS = kind((5, 0, 99), BadSigns, NOT_TUPLES + with_bad_entries((5, 0, 99)) + (
    (), (5,), (1,) * 9, (-1, 0, 0), (0, 0, 100), (HUGE, 0, 0), ((5, 0, 99),),
))

PERSON = kind(2, BadPerson, NOT_INTEGERS + (-1, 0, 4, HUGE, -HUGE))

# The last person of a climb is 2, so that 3 cannot be the first one, nor 1 the last one.
FIRST = kind(2, BadPerson, NOT_INTEGERS + (-1, 0, 3, 4, HUGE, -HUGE))
LAST = kind(2, BadPerson, NOT_INTEGERS + (-1, 0, 1, 4, HUGE, -HUGE))

STAIR = kind((1, 1, 3), BadStair, NOT_TUPLES + with_bad_entries((1, 1, 3)) + (
    (), (1,), (1,) * 9, (0, 1, 1), (2, 2, 3), (1, 2, 1), (1, 3, 3), (1, 1, 4), (1, 1, 0), (1, 1, -1), (1, 1, HUGE),
    (1, 0), (1, 3), (-HUGE, 1, 1), ((1, 1, 3),),
))
SECOND_STAIR = second(STAIR, ((1, 1), (1, 2, 3, 4), (1,) * 8))

MOVES = kind((-2, 3, 2, -1), BadMoves, NOT_TUPLES + with_bad_entries((-2, 3, 2)) + (
    (0,), (1,), (4,), (-3,), (-4,), (HUGE,), (-HUGE,), (2, 3, 0), (2, -1, 1), (2,) * 41, (-1, 2) * 100, ((2, 3),),
))

RISING = kind((1, 3, 3), BadRising, NOT_TUPLES + with_bad_entries((1, 3, 3)) + (
    (), (1,), (1,) * 9, (0, 1, 1), (1, 2, 1), (1, 1, 4), (4, 4, 4), (3, 2, 1), (-1, 1, 1), (1, 1, HUGE), (1, 3),
    (-HUGE, 1, 1), ((1, 3, 3),),
))
SECOND_RISING = second(RISING, ((2, 2), (1, 2, 3, 4), (8,) * 8))

RING_BELLS = kind((1, 3, 2), BadBells, NOT_TUPLES + with_bad_entries((1, 3, 2)) + (
    (0,), (4,), (-1,), (HUGE,), (2, 3, 4), (2, 0, 3), (1,) * 61, (2, 1) * 200, ((2, 1),),
))

LIFT = kind((0, 1, 1), BadLift, NOT_TUPLES + with_bad_entries((0, 1, 1)) + (
    (), (1,), (0,) * 9, (2, 2, 2), (0, 3, 3), (0, 0, 4), (1, 0, 0), (0, 1, 0), (-1, 0, 3), (-2, 2, 2), (-5, -4, -1),
    (-201, -200, -200), (-201, -201), (-HUGE, 0, 0), (-HUGE,) * 3, (0, 0, HUGE), ((0, 1, 1),),
))
SECOND_LIFT = second(LIFT, ((0, 0), (1, 2, 3, 4), (-200,) * 8))

ARCS = tuple((source, person) for source in range(1, 7) for person in range(1, 7) if source != person)

NO_WEBS = NOT_TUPLES + (
    (), (3,), (3, (), ()), ((), 3), ((1, 2), (2, 3)), (3, 4), (3, None), (3, True), (3, "12"), (3, []), (3, [(1, 2)]),
    (3, {}), (3, {(1, 2): 1}), (True, ()), (False, ()), (None, ()), ("3", ()), ((3,), ()), ([3], ()), ({}, ()),
    (0, ()), (-1, ()), (7, ()), (HUGE, ()), (7, ((1, 1),)), (6, ARCS[:13]), (6, ((1, 1),) * 13), (6, ARCS),
    (True, ((1, 2),)), [3, ((1, 2),)],
)

BAD_ARCS = (
    True, False, None, 0, 1, 12, "", "12", (), (1,), (1, 2, 3), [], [1, 2], {}, {1: 2}, (1, 1), (3, 3), (0, 1), (1, 0),
    (1, 4), (4, 1), (-1, 2), (HUGE, 1), (True, 2), (2, True), (1, "2"), ("1", 2), (1, None), (1, (2,)), ([1], 2),
    ({}, 1), ((1, 2),), ((1, 2), (2, 3)), (1, 2),
)


def bad_webs():
    """The webs that are not allowed, with their errors and the indexes that these carry."""
    webs = [(web, BadWeb, {"index": None}) for web in NO_WEBS]
    for arc in BAD_ARCS:
        webs.append(((3, ((1, 2), (2, 3), arc)), BadWeb, {"index": 2}))
        webs.append(((3, ((1, 2), arc, (1, 1))), BadWeb, {"index": 1}))
        if arc != (1, 2):
            webs.append(((3, (arc, (1, 2), None)), BadWeb, {"index": 0}))
    webs.append(((6, ARCS[:11] + ((6, 7),)), BadWeb, {"index": 11}))
    webs.append(((6, ARCS[:11] + ARCS[:1]), BadWeb, {"index": 11}))
    webs.append(((1, ((1, 2),)), BadWeb, {"index": 0}))
    webs.append(((1, ((1, 1),)), BadWeb, {"index": 0}))
    return tuple(webs)


WEB = ((3, ((1, 2), (2, 3))), bad_webs())

LOG = kind((0, 1, 0), BadLog, NOT_TUPLES + with_bad_entries((0, 1, 0)) + (
    (2,), (-1,), (0, 1, 2), (0, -2), (HUGE,), (0,) * 61, (0, 1) * 200, ((0, 1),),
))

WEB_SIGNS = kind((5, 0, 99), BadSigns, tuple(bad for bad, _, _ in SIGNS[1]) + (
    (5, 0), (5, 0, 99, 1), (1,) * 6,
))
