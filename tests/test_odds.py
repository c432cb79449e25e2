"""Point 21: bells that ring by chance."""

import itertools
import unittest
from fractions import Fraction

from bellcopies.errors import BadOdds, BadStair, TooMany
from bellcopies.odds import mean_wait, stair_chances, visit_chance
from tests.support import as_ratio, behind_bell, error_of, fractions_of, slow_ring, slow_stairs, some_odds


def some_sizes_and_odds(sizes, many):
    for size in sizes:
        for seed in range(many):
            yield size, some_odds(100 * size + seed, size - 1)


def steps_from(stair, odds):
    """The pairs (stair behind a bell, chance of the bell)."""
    return [(behind_bell(stair, bell), part) for bell, part in enumerate(fractions_of(odds), 2)]


def slow_visit(stair, goal, odds):
    """The chance that the goal comes from a stair on, by what the next bell is that changes anything."""
    if stair == goal:
        return Fraction(1)
    changes = [(new, part) for new, part in steps_from(stair, odds) if new != stair]
    whole = sum(part for _, part in changes)
    return sum((part / whole * slow_visit(new, goal, odds) for new, part in changes), Fraction(0))


def slow_wait(stair, person, odds, known):
    """The mean number of bells, from a stair on, until a person says the sign of person 1."""
    if stair[person - 1] == 1:
        return Fraction(0)
    if stair not in known:
        changes = [(new, part) for new, part in steps_from(stair, odds) if new != stair]
        whole = sum(part for _, part in changes)
        later = sum(part * slow_wait(new, person, odds, known) for new, part in changes)
        known[stair] = (1 + later) / whole
    return known[stair]


class StairChances(unittest.TestCase):
    def test_out_of_all_rows_of_bells(self):
        for size, odds in some_sizes_and_odds((2, 3, 4), 4):
            parts = fractions_of(odds)
            for many in range(6 if size < 4 else 5):
                chances = {}
                for bells in itertools.product(range(2, size + 1), repeat=many):
                    chance = Fraction(1)
                    for bell in bells:
                        chance *= parts[bell - 2]
                    stair = slow_ring(size, bells)
                    chances[stair] = chances.get(stair, 0) + chance
                expected = tuple((stair, as_ratio(chance)) for stair, chance in sorted(chances.items()))
                self.assertEqual(stair_chances(size, odds, many), expected)

    def test_most_bells(self):
        for size, odds in some_sizes_and_odds((2, 3, 4, 5), 3):
            chances = {tuple(range(1, size + 1)): Fraction(1)}
            for _ in range(8):
                following = {}
                for stair, chance in chances.items():
                    for new, part in steps_from(stair, odds):
                        following[new] = following.get(new, 0) + chance * part
                chances = following
            expected = tuple((stair, as_ratio(chances[stair])) for stair in sorted(chances))
            self.assertEqual(stair_chances(size, odds, 8), expected)

    def test_edges(self):
        self.assertEqual(stair_chances(2, ((1, 1),), 0), (((1, 2), (1, 1)),))
        self.assertEqual(stair_chances(2, ((1, 1),), 8), (((1, 1), (1, 1)),))
        self.assertEqual(
            stair_chances(3, ((1, 60), (59, 60)), 1), (((1, 1, 3), (1, 60)), ((1, 2, 2), (59, 60))),
        )
        self.assertEqual(stair_chances(5, ((1, 4),) * 4, 0), (((1, 2, 3, 4, 5), (1, 1)),))


class MeanWait(unittest.TestCase):
    def test_by_the_next_bell(self):
        for size, odds in some_sizes_and_odds((2, 3, 4, 5), 5):
            for person in range(1, size + 1):
                expected = slow_wait(tuple(range(1, size + 1)), person, odds, {})
                self.assertEqual(mean_wait(size, odds, person), as_ratio(expected))

    def test_is_the_sum_of_the_waits_for_each_bell(self):
        for size, odds in some_sizes_and_odds(range(2, 9), 5):
            for person in range(1, size + 1):
                expected = sum((1 / part for part in fractions_of(odds)[:person - 1]), Fraction(0))
                self.assertEqual(mean_wait(size, odds, person), as_ratio(expected))

    def test_edges(self):
        self.assertEqual(mean_wait(2, ((1, 1),), 1), (0, 1))
        self.assertEqual(mean_wait(2, ((1, 1),), 2), (1, 1))
        self.assertEqual(mean_wait(8, ((1, 7),) * 7, 8), (49, 1))
        self.assertEqual(mean_wait(3, ((59, 60), (1, 60)), 3), (60 * 59 + 60, 59))


class VisitChance(unittest.TestCase):
    def test_each_stair(self):
        for size, odds in some_sizes_and_odds((2, 3, 4), 5):
            for stair in slow_stairs(size):
                expected = slow_visit(tuple(range(1, size + 1)), stair, odds)
                self.assertEqual(visit_chance(size, odds, stair), as_ratio(expected))

    def test_greatest_size(self):
        for odds in (((1, 4),) * 4, ((1, 60), (7, 60), (1, 2), (11, 30))):
            for stair in slow_stairs(5)[::5]:
                expected = slow_visit((1, 2, 3, 4, 5), stair, odds)
                self.assertEqual(visit_chance(5, odds, stair), as_ratio(expected))

    def test_what_is_sure(self):
        for size, odds in some_sizes_and_odds((2, 3, 4, 5), 3):
            self.assertEqual(visit_chance(size, odds, tuple(range(1, size + 1))), (1, 1))
            self.assertEqual(visit_chance(size, odds, (1,) * size), (1, 1))

    def test_stairs_of_another_length(self):
        for length in (2, 4, 5, 6, 8):
            error = error_of(visit_chance, (3, ((1, 2), (1, 2)), (1,) * length))
            self.assertIs(type(error), BadStair)


class Limits(unittest.TestCase):
    def test_sizes(self):
        for size in (6, 7, 8):
            odds = ((1, size - 1),) * (size - 1)
            for function, last in ((stair_chances, 0), (visit_chance, (1,) * size)):
                error = error_of(function, (size, odds, last))
                self.assertIs(type(error), TooMany)
                self.assertEqual(error.most, 5)
            self.assertEqual(mean_wait(size, odds, 2), (size - 1, 1))

    def test_odds(self):
        bad = (
            ((1, 2), (1, 3)), ((1, 2), (2, 3)), ((2, 4), (1, 2)), ((0, 1), (1, 1)), ((-1, 2), (3, 2)), ((1, 61), (60, 61)),
            ((1, 1),), ((1, 3),) * 3, (), ((1, -2), (1, 2)), ((-1, -2), (1, 2)), ((1, 2), (True, 2)), ((1, 2), 1),
        )
        for odds in bad:
            for function, last in ((stair_chances, 0), (mean_wait, 1), (visit_chance, (1, 1, 1))):
                self.assertIs(type(error_of(function, (3, odds, last))), BadOdds)
        for odds in (((1, 2),), ((2, 1),), ((0, 1),), (), ((1, 2), (1, 2)), ((2, 2),), ((-1, 1),)):
            self.assertIs(type(error_of(mean_wait, (2, odds, 2))), BadOdds)
        self.assertEqual(mean_wait(3, ((1, 60), (59, 60)), 2), (60, 1))
        # The sum is 1 only over a bottom that none of the odds has.
        self.assertEqual(mean_wait(5, ((1, 59), (1, 59), (37, 59), (20, 59)), 2), (59, 1))
        self.assertEqual(mean_wait(4, ((1, 6), (1, 10), (11, 15)), 4), as_ratio(16 + Fraction(15, 11)))
