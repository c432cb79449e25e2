"""Point 8: rounds."""

import itertools
import unittest

from bellcopies.rounds import in_reach, round_plan, rounds, shows_rounds
from tests.support import behind_bell, shortest_bells, slow_ring, slow_stairs, strange_values


def all_rounds(size):
    """All rounds but the empty one: ascending bells of which no two are neighbors."""
    found = []
    for many in range(1, size):
        for bells in itertools.combinations(range(2, size + 1), many):
            if all(bells[at] + 1 < bells[at + 1] for at in range(many - 1)):
                found.append(bells)
    return found


def least_rounds(size):
    """A dict from each stair to the least number of rounds, searched over all rounds."""
    first = tuple(range(1, size + 1))
    known = {first: 0}
    level = [first]
    while level:
        following = []
        for row in level:
            for bells in all_rounds(size):
                new = row
                for bell in bells:
                    new = behind_bell(new, bell)
                if new not in known:
                    known[new] = known[row] + 1
                    following.append(new)
        level = following
    return known


def slow_shows(stair, value, least):
    """Whether tuples of integers are as few rounds as can be, with the stair."""
    size = len(stair)
    allowed = all(bells in all_rounds(size) or bells == () for bells in value)
    return allowed and len(value) == least and slow_ring(size, sum(value, ())) == stair


class Rounds(unittest.TestCase):
    def test_least_number(self):
        for size in range(2, 9):
            known = least_rounds(size)
            self.assertEqual(len(known), len(shortest_bells(size)))
            for stair, least in known.items():
                self.assertEqual(rounds(stair), least)

    def test_edges(self):
        self.assertEqual(rounds((1, 2)), 0)
        self.assertEqual(rounds((1, 1)), 1)
        self.assertEqual(rounds((1, 1, 3, 3, 5, 5, 7, 7)), 1)
        self.assertEqual(rounds((1,) * 8), 7)


class RoundPlan(unittest.TestCase):
    def test_each_stair(self):
        for size in range(2, 8):
            for stair, least in least_rounds(size).items():
                value = round_plan(stair)
                self.assertTrue(slow_shows(stair, value, least), (stair, value))
                self.assertIs(shows_rounds(stair, value), True)

    def test_greatest_size(self):
        for stair in sorted(shortest_bells(8)):
            self.assertIs(shows_rounds(stair, round_plan(stair)), True)

    def test_no_rounds(self):
        self.assertEqual(round_plan((1, 2, 3, 4)), ())


class ShowsRounds(unittest.TestCase):
    def test_each_value_of_rounds(self):
        choices = all_rounds(4) + [(), (2, 3), (4, 2), (2, 2), (1,), (5,)]
        for stair, least in least_rounds(4).items():
            for many in range(3):
                for value in itertools.product(choices, repeat=many):
                    self.assertIs(shows_rounds(stair, value), slow_shows(stair, value, least))

    def test_values_near_good_ones(self):
        for size in (3, 4, 5, 6):
            for stair, least in least_rounds(size).items():
                good = round_plan(stair)
                near = [good + ((),), ((),) + good, good + good[-1:], good[1:], good[:-1], list(good)]
                near.append(tuple(list(bells) for bells in good))
                near.append(tuple(bells[::-1] for bells in good))
                near.append(tuple(bells + bells[-1:] for bells in good))
                near.append(tuple(tuple(bell + 1 for bell in bells) for bells in good))
                near.append(good[::-1])
                for at in range(len(good)):
                    near.append(good[:at] + good[at + 1:])
                    for bells in all_rounds(size):
                        near.append(good[:at] + (bells,) + good[at + 1:])
                for value in near:
                    plain = type(value) is tuple and all(type(bells) is tuple for bells in value)
                    expected = plain and slow_shows(stair, value, least)
                    self.assertIs(shows_rounds(stair, value), expected, (stair, value))

    def test_more_rounds_than_needed_are_none(self):
        self.assertIs(shows_rounds((1, 1, 3, 3), ((2, 4),)), True)
        self.assertIs(shows_rounds((1, 1, 3, 3), ((2,), (4,))), False)
        self.assertIs(shows_rounds((1, 1), ((2,), (2,))), False)

    def test_any_such_plan_is_shown(self):
        # Bell 5 may ring in the first round or in the second one.
        stair = slow_ring(5, (2, 3, 5))
        self.assertIs(shows_rounds(stair, ((2, 5), (3,))), True)
        self.assertIs(shows_rounds(stair, ((2,), (3, 5))), True)
        self.assertIs(shows_rounds(stair, ((2, 5), (3, 5))), True)
        self.assertIs(shows_rounds(stair, ((3, 5), (2,))), False)

    def test_strange_values(self):
        extra = ((True,), ((True,),), ((2, None),), (([2],),), (("2",),), ([2],), ((2,), None), ({2: 2},))
        for value in strange_values() + extra:
            with self.subTest(value=value):
                self.assertIs(shows_rounds((1, 1), value), repr(value) == "((2,),)")
                self.assertIs(shows_rounds((1, 2), value), value == ())
                self.assertIs(shows_rounds((1, 1, 1), value), False)


class InReach(unittest.TestCase):
    def test_out_of_all_rows_of_bells(self):
        for size, longest in ((2, 8), (3, 8), (4, 8), (5, 6)):
            level = {tuple(range(1, size + 1))}
            for many in range(longest + 1):
                for stair in slow_stairs(size):
                    self.assertIs(in_reach(stair, many), stair in level)
                level = {behind_bell(row, bell) for row in level for bell in range(2, size + 1)}

    def test_edges(self):
        self.assertIs(in_reach((1, 2), 0), True)
        self.assertIs(in_reach((1, 2), 1), False)
        self.assertIs(in_reach((1, 2), 100), False)
        self.assertIs(in_reach((1, 1), 0), False)
        self.assertIs(in_reach((1, 1), 100), True)
        self.assertIs(in_reach((1, 1, 1, 1, 1, 2, 3, 4), 15), False)
        self.assertIs(in_reach((1, 1, 1, 1, 1, 2, 3, 4), 16), True)
