"""The kinds of arguments: a good value of each, and values that are not allowed with their errors.

A kind is a pair (good value, tuple of (bad value, error class, fields of the error)). The good
values fit together: they are for 3 people, or for as many as a kind is asked for.
"""

from bellcopies.errors import (
    BadArc, BadBells, BadChances, BadCount, BadGoal, BadGroup, BadHearings, BadLift, BadLog, BadMoves, BadOdds, BadPair,
    BadPerson, BadPrices, BadRising, BadSign, BadSigns, BadSize, BadStair, BadStarts, BadTimes, BadWeb, InvalidText,
    NotText,
)
from tests.support import NOT_INTEGERS, NOT_TUPLES, with_bad_entries

HUGE = 10 ** 40


def kind(good, error, bads):
    """A kind whose bad values all have one error without fields."""
    return good, tuple((bad, error, {}) for bad in bads)


def second(first_kind, others):
    """The kind of a second row, for which these rows are bad only by their length."""
    good, bads = first_kind
    return good, bads + tuple((other, BadPair, {}) for other in others)


def count_to(most):
    """The kind of an integer from 0 to the most."""
    return kind(2, BadCount, NOT_INTEGERS + (-1, -2, most + 1, HUGE, -HUGE))


def size_of(size):
    """The kind of a size, of which this one is given."""
    return kind(size, BadSize, NOT_INTEGERS + (-3, 0, 1, 9, HUGE, -HUGE))


SIZE = size_of(3)

BELLS = kind((2, 3, 2), BadBells, NOT_TUPLES + with_bad_entries((2, 3, 2)) + (
    (0,), (1,), (4,), (-2,), (HUGE,), (2, 3, 4), (2, 1, 3), (2,) * 61, (2, 3) * 200, ((2, 3),),
))

SIGNS = kind((5, 0, 99), BadSigns, NOT_TUPLES + with_bad_entries((5, 0, 99)) + (
    (), (5,), (1,) * 9, (-1, 0, 0), (0, 0, 100), (HUGE, 0, 0), ((5, 0, 99),),
))


def person_of(size):
    """The kind of a person of so many."""
    return kind(2, BadPerson, NOT_INTEGERS + (-1, 0, size + 1, HUGE, -HUGE))


PERSON = person_of(3)

# The last person of a climb is 2, so that 3 cannot be the first one, nor 1 the last one.
FIRST = kind(2, BadPerson, NOT_INTEGERS + (-1, 0, 3, 4, HUGE, -HUGE))
LAST = kind(2, BadPerson, NOT_INTEGERS + (-1, 0, 1, 4, HUGE, -HUGE))

STAIR = kind((1, 1, 3), BadStair, NOT_TUPLES + with_bad_entries((1, 1, 3)) + (
    (), (1,), (1,) * 9, (0, 1, 1), (2, 2, 3), (1, 2, 1), (1, 3, 3), (1, 1, 4), (1, 1, 0), (1, 1, -1), (1, 1, HUGE),
    (1, 0), (1, 3), (-HUGE, 1, 1), ((1, 1, 3),),
))
SECOND_STAIR = second(STAIR, ((1, 1), (1, 2, 3, 4), (1,) * 8))


def stair_of(size):
    """The kind of a stair of just this length."""
    bads = tuple(bad for bad, _, _ in STAIR[1] if bad != (1,) * size)
    return kind((1,) * size, BadStair, bads + tuple((1,) * other for other in range(2, 9) if other != size))



MOVES = kind((-2, 3, 2, -1), BadMoves, NOT_TUPLES + with_bad_entries((-2, 3, 2)) + (
    (0,), (1,), (4,), (-3,), (-4,), (HUGE,), (-HUGE,), (2, 3, 0), (2, -1, 1), (2,) * 41, (-1, 2) * 100, ((2, 3),),
))

RISING = kind((1, 3, 3), BadRising, NOT_TUPLES + with_bad_entries((1, 3, 3)) + (
    (), (1,), (1,) * 9, (0, 1, 1), (1, 2, 1), (1, 1, 4), (4, 4, 4), (3, 2, 1), (-1, 1, 1), (1, 1, HUGE), (1, 3),
    (-HUGE, 1, 1), ((1, 3, 3),),
))
SECOND_RISING = second(RISING, ((2, 2), (1, 2, 3, 4), (8,) * 8))


def rising_of(size):
    """The kind of a rising row of just this length."""
    bads = tuple(bad for bad, _, _ in RISING[1])
    return kind((2,) * size, BadRising, bads + tuple((2,) * other for other in range(2, 9) if other != size))


RING_BELLS = kind((1, 3, 2), BadBells, NOT_TUPLES + with_bad_entries((1, 3, 2)) + (
    (0,), (4,), (-1,), (HUGE,), (2, 3, 4), (2, 0, 3), (1,) * 61, (2, 1) * 200, ((2, 1),),
))

LIFT = kind((0, 1, 1), BadLift, NOT_TUPLES + with_bad_entries((0, 1, 1)) + (
    (), (1,), (0,) * 9, (2, 2, 2), (0, 3, 3), (0, 0, 4), (1, 0, 0), (0, 1, 0), (-1, 0, 3), (-2, 2, 2), (-5, -4, -1),
    (-201, -200, -200), (-201, -201), (-HUGE, 0, 0), (-HUGE,) * 3, (0, 0, HUGE), ((0, 1, 1),),
))
SECOND_LIFT = second(LIFT, ((0, 0), (1, 2, 3, 4), (-200,) * 8))

ARCS = tuple((source, person) for source in range(1, 7) for person in range(1, 7) if source != person)

NO_WEBS = NOT_TUPLES + (
    (), (3,), (3, (), ()), ((), 3), ((1, 2), (2, 3)), (3, 4), (3, None), (3, True), (3, "12"), (3, []), (3, [(1, 2)]),
    (3, {}), (3, {(1, 2): 1}), (True, ()), (False, ()), (None, ()), ("3", ()), ((3,), ()), ([3], ()), ({}, ()),
    (0, ()), (-1, ()), (7, ()), (HUGE, ()), (7, ((1, 1),)), (6, ARCS[:13]), (6, ((1, 1),) * 13), (6, ARCS),
    (True, ((1, 2),)), [3, ((1, 2),)],
)

BAD_ARCS = (
    True, False, None, 0, 1, 12, "", "12", (), (1,), (1, 2, 3), [], [1, 2], {}, {1: 2}, (1, 1), (3, 3), (0, 1), (1, 0),
    (1, 4), (4, 1), (-1, 2), (HUGE, 1), (True, 2), (2, True), (1, "2"), ("1", 2), (1, None), (1, (2,)), ([1], 2),
    ({}, 1), ((1, 2),), ((1, 2), (2, 3)), (1, 2),
)


def bad_webs():
    """The webs that are not allowed, with their errors and the indexes that these carry."""
    webs = [(web, BadWeb, {"index": None}) for web in NO_WEBS]
    for arc in BAD_ARCS:
        webs.append(((3, ((1, 2), (2, 3), arc)), BadWeb, {"index": 2}))
        webs.append(((3, ((1, 2), arc, (1, 1))), BadWeb, {"index": 1}))
        if arc != (1, 2):
            webs.append(((3, (arc, (1, 2), None)), BadWeb, {"index": 0}))
    webs.append(((6, ARCS[:11] + ((6, 7),)), BadWeb, {"index": 11}))
    webs.append(((6, ARCS[:11] + ARCS[:1]), BadWeb, {"index": 11}))
    webs.append(((1, ((1, 2),)), BadWeb, {"index": 0}))
    webs.append(((1, ((1, 1),)), BadWeb, {"index": 0}))
    return tuple(webs)


WEB = ((3, ((1, 2), (2, 3))), bad_webs())

LOG = kind((0, 1, 0), BadLog, NOT_TUPLES + with_bad_entries((0, 1, 0)) + (
    (2,), (-1,), (0, 1, 2), (0, -2), (HUGE,), (0,) * 61, (0, 1) * 200, ((0, 1),),
))

WEB_SIGNS = kind((5, 0, 99), BadSigns, tuple(bad for bad, _, _ in SIGNS[1]) + (
    (5, 0), (5, 0, 99, 1), (1,) * 6,
))


def web_of(size):
    """The kind of a web, of which one of so many people is given, with one arc less."""
    return (size, tuple((person, person + 1) for person in range(1, size))), bad_webs()


def web_signs(size):
    """The kind of as many signs as people."""
    good = tuple(range(size))
    return kind(good, BadSigns, NOT_TUPLES + with_bad_entries(good) + (
        (), good[1:], good + (1,), (100,) + good[1:], good[:-1] + (-1,), (HUGE,) + good[1:], (good,),
    ))


def goal_of(size):
    """The kind of a goal of so many people."""
    good = tuple(range(size, 0, -1))
    return kind(good, BadGoal, NOT_TUPLES + with_bad_entries(good) + (
        (), good[1:], good + (1,), (0,) + good[1:], good[:-1] + (size + 1,), (-1,) + good[1:], (HUGE,) + good[1:],
        good[:-1] + (-HUGE,), (good,), (1,) * (size + 1),
    ))


def prices_of(many):
    """The kind of prices of so many arcs or moves."""
    good = ((0, 1000, 7, 1, 1000) * 2)[:many]
    return kind(good, BadPrices, NOT_TUPLES + with_bad_entries(good) + (
        (), good[1:], good + (1,), (-1,) + good[1:], (1001,) + good[1:], good[:-1] + (HUGE,), (-HUGE,) + good[1:],
        (good,), (1,) * 13,
    ))


def bad_at(good, bad_entries, error):
    """A tuple with each bad entry at each place, with the error and the index of the first bad entry."""
    bads = []
    for at in range(len(good)):
        for entry in bad_entries:
            bads.append((good[:at] + (entry,) + good[at + 1:], error, {"index": at}))
            bads.append((good[:at] + (entry,) + (None,) * (len(good) - at - 1), error, {"index": at}))
    return tuple(bads)


def hearings_of(size):
    """The kind of hearings of so many signs."""
    before = (5, 0, 99, 7, 7, 1, 50)[:size]
    behind = (5, 5, 99, 7, 7, 1, 50)[:size]
    good = ((before, behind), (behind, behind), (before, behind))
    pairs = NOT_TUPLES + (
        (), (before,), (before, behind, behind), [before, behind], {before: behind}, before, ((), ()), ((1,), (1,)),
        ((1,) * 9, (1,) * 9), (before, behind[:-1]), (before[:-1], behind), (before, behind + (0,)), (before, ()),
        ((), behind), (before, (behind,)), (before, (1,) * 9), (before, {}), ((before, behind),),
        ((-1,) + before[1:], behind), (before, behind[:-1] + (-1,)), (before, behind[:-1] + (100,)),
        (before, behind[:-1] + (HUGE,)),
    )
    pairs += tuple((before, bad) for bad in NOT_TUPLES + with_bad_entries(behind))
    pairs += tuple((bad, behind) for bad in NOT_TUPLES + with_bad_entries(before))
    bads = tuple((bad, BadHearings, {"index": None}) for bad in NOT_TUPLES + ((), good + good + good[:1], (None,) * 7))
    bads += bad_at(good, pairs, BadHearings)
    # Good pairs are bad behind one of another length.
    bads += tuple(
        (good[:at] + (((1,) * other,) * 2,) + good[at:], BadHearings, {"index": at})
        for at in (1, 2, 3) for other in range(2, 9) if other != size
    )
    return good, bads


def web_hearings(size):
    """The kind of hearings of as many signs as a web has people."""
    good, bads = hearings_of(size)
    return good, bads + tuple(
        ((((1,) * other,) * 2,) * many, BadHearings, {"index": None})
        for other in range(2, 9) if other != size for many in (1, 6)
    )


def starts_of(size):
    """The kind of starts of a size."""
    good = (tuple(range(size)), (99,) * size, (0,) * size)
    rows = NOT_TUPLES + with_bad_entries(good[0]) + (
        (), (1,), (1,) * 9, good[0][1:], good[0] + (1,), (-1,) + good[0][1:], good[0][:-1] + (100,),
        (HUGE,) + good[0][1:], (good[0],),
    )
    return kind(good, BadStarts, NOT_TUPLES + (good * 2 + good[:1], good[:1] * 7, good[0]) + tuple(
        good[:at] + (row,) + good[at + 1:] for at in range(3) for row in rows
    ))


KINDS = kind(3, BadCount, NOT_INTEGERS + (-2, 0, 1, 5, HUGE, -HUGE))


def odds_of(many):
    """The kind of odds of so many things, two at least."""
    good = ((1, 3), (2, 3)) if many == 2 else ((1, many),) * many
    entries = NOT_TUPLES + (
        (), (1,), (1, 2, 3), (0, 1), (0, 0), (1, 0), (-1, 2), (1, -2), (-1, -2), (2, 2 * many), (2, 4), (1, 61),
        (1, 59), (1, 60), (1, 1), (2, 1), (HUGE, 1), (1, HUGE), (HUGE, HUGE + 1), (-HUGE, 1), ((1, 2),), (1, (2,)),
        [1, many], [1, 3],
    ) + with_bad_entries((1, 2)) + with_bad_entries((1, many))
    rows = tuple(good[:at] + (entry,) + good[at + 1:] for at in range(many) for entry in entries)
    return kind(good, BadOdds, NOT_TUPLES + rows + (
        (), good[1:], good + good[-1:], good + ((0, 1),), ((1, 1),), good[0], (good,),
        # The sum is 1, but not of such ratios.
        ((0, 1),) * (many - 1) + ((1, 1),), ((-1, 2), (3, 2)) + ((0, 1),) * (many - 2), ((2, 2 * many),) * many,
        ((1, 61),) * (many - 1) + ((62 - many, 61),), (1, many) * many,
    ))


def chances_of_three():
    """The kind of chances of three people."""
    good = ((1, 3), (0, 1), (2, 3))
    entries = NOT_TUPLES + (
        (), (1,), (1, 2, 3), (0, 2), (0, 0), (1, 0), (-1, 3), (1, -3), (-1, -3), (2, 6), (3, 9), (1, 61), (1, 59),
        (1, 60), (2, 1), (0, -1), (HUGE, 1), (1, HUGE), (HUGE, HUGE + 1), (-HUGE, 1), ((1, 3),), (1, (3,)), [1, 3],
    ) + with_bad_entries((1, 3)) + with_bad_entries((0, 1))
    rows = tuple(good[:at] + (entry,) + good[at + 1:] for at in range(3) for entry in entries)
    return kind(good, BadChances, NOT_TUPLES + rows + (
        (), good[:1], good[::2], good + ((0, 1),), ((1, 1),), good[0], (good,), ((1, 1),) * 3, ((0, 1),) * 3,
        # The sum is 1, but not of such ratios.
        ((-1, 2), (3, 2), (0, 1)), ((2, 6),) * 3, ((1, 61), (60, 61), (0, 1)), (1, 3) * 3,
    ))


CHANCES = chances_of_three()


def times_of(many):
    """The kind of a table of times of so many arcs."""
    good = ((0, 99), (7, 7), (3, 4), (99, 99))[:many]
    pairs = NOT_TUPLES + (
        (), (1,), (1, 2, 3), (2, 1), (99, 0), (-1, 0), (-1, -1), (0, 100), (100, 100), (0, HUGE), (-HUGE, 0),
        (HUGE, HUGE), ((1, 2),), (1, (2,)), [1, 2], [0, 99],
    ) + with_bad_entries((1, 2))
    bads = NOT_TUPLES + ((), good[1:], good + good[-1:], (good,), (None,) * (many + 1))
    return good, tuple((bad, BadTimes, {"index": None}) for bad in bads) + bad_at(good, pairs, BadTimes)


# The other person of two unlike ones, of whom the first is 2.
UNLIKE = kind(3, BadPerson, tuple(bad for bad, _, _ in PERSON[1]) + (2,))

ARC = kind(1, BadArc, NOT_INTEGERS + (-1, -2, 2, HUGE, -HUGE))

SIGN = kind(9, BadSign, NOT_INTEGERS + (-1, 0, 100, HUGE, -HUGE))

GROUP = kind((1, 3), BadGroup, NOT_TUPLES + with_bad_entries((1, 3)) + (
    (0,), (4,), (-1,), (HUGE,), (3, 1), (1, 1), (1, 2, 2), (1, 3, 2), (1, 2, 3, 4), (0, 1, 2), (2, 3, 4), ((1, 3),),
    ((),),
))

TEXT = ("3 : 1>2", tuple((bad, NotText, {}) for bad in NOT_INTEGERS + NOT_TUPLES if not isinstance(bad, str)) + tuple(
    (bad, InvalidText, {"place": place}) for bad, place in (
        ("", 0), ("  ", 2), ("abc", 0), ("\u00e9", 0), ("7", 0), ("03", 0), ("3 2", 2), ("3 :", 3), ("3 : 1>1", 6),
        ("3 : 1>2 , 1>2", 12), ("3\t: 1>2", 1), ("3 : 1>2\n", 7),
    )
))
