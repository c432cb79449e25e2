"""Point 7: stairs below others."""

import itertools
import math
import unittest

from bellcopies.order import chain_count, covers, is_below, join, meet, rank, rank_counts
from tests.support import shortest_bells, slow_stairs


def slow_below(one, other):
    return all(one[at] <= other[at] for at in range(len(one)))


def slow_rank(stair):
    return sum(range(1, len(stair) + 1)) - sum(stair)


class Below(unittest.TestCase):
    def test_each_pair(self):
        for size in (2, 3, 4, 5):
            for one, other in itertools.product(slow_stairs(size), repeat=2):
                self.assertIs(is_below(one, other), slow_below(one, other))

    def test_a_stair_is_below_itself(self):
        self.assertIs(is_below((1,) * 8, (1,) * 8), True)
        self.assertIs(is_below((1, 1, 1, 1, 1, 1, 1, 2), (1,) * 8), False)

    def test_meet_is_the_greatest_below_both(self):
        for size in (2, 3, 4):
            rows = slow_stairs(size)
            for one, other in itertools.product(rows, repeat=2):
                found = meet(one, other)
                below = [row for row in rows if slow_below(row, one) and slow_below(row, other)]
                self.assertIn(found, below)
                self.assertTrue(all(slow_below(row, found) for row in below))

    def test_join_is_the_least_that_both_are_below(self):
        for size in (2, 3, 4):
            rows = slow_stairs(size)
            for one, other in itertools.product(rows, repeat=2):
                found = join(one, other)
                above = [row for row in rows if slow_below(one, row) and slow_below(other, row)]
                self.assertIn(found, above)
                self.assertTrue(all(slow_below(found, row) for row in above))

    def test_greatest_size(self):
        one, other = (1, 1, 3, 3, 3, 6, 6, 6), (1, 2, 2, 2, 5, 5, 5, 8)
        self.assertEqual(meet(one, other), (1, 1, 2, 2, 3, 5, 5, 6))
        self.assertEqual(join(one, other), (1, 2, 3, 3, 5, 6, 6, 8))


class Rank(unittest.TestCase):
    def test_each_stair(self):
        for size in range(2, 9):
            for stair in shortest_bells(size):
                self.assertEqual(rank(stair), slow_rank(stair))

    def test_edges(self):
        self.assertEqual(rank((1, 2)), 0)
        self.assertEqual(rank((1,) * 8), 28)

    def test_counts(self):
        for size in range(2, 9):
            ranks = [slow_rank(stair) for stair in shortest_bells(size)]
            expected = tuple(ranks.count(each) for each in range(max(ranks) + 1))
            self.assertEqual(rank_counts(size), expected)
        self.assertEqual(rank_counts(2), (1, 1))


class Covers(unittest.TestCase):
    def test_each_stair(self):
        for size in (2, 3, 4, 5, 6):
            rows = slow_stairs(size)
            for stair in rows:
                expected = [
                    row for row in rows if slow_below(row, stair) and slow_rank(row) == slow_rank(stair) + 1
                ]
                self.assertEqual(covers(stair), tuple(expected))

    def test_none_and_many(self):
        self.assertEqual(covers((1,) * 8), ())
        self.assertEqual(len(covers((1, 2, 3, 4, 5, 6, 7, 8))), 7)
        self.assertEqual(covers((1, 2, 3)), ((1, 1, 3), (1, 2, 2)))


class ChainCount(unittest.TestCase):
    def slow_count(self, one, other):
        if one == other:
            return 1
        found = 0
        for at in range(len(one)):
            lower = one[:at] + (one[at] - 1,) + one[at + 1:]
            if lower[0] == 1 and list(lower) == sorted(lower) and slow_below(other, lower):
                found += self.slow_count(lower, other)
        return found

    def test_each_pair(self):
        for size in (2, 3, 4):
            for one, other in itertools.product(slow_stairs(size), repeat=2):
                self.assertEqual(chain_count(one, other), self.slow_count(one, other))

    def test_not_below_and_itself(self):
        self.assertEqual(chain_count((1, 1, 3), (1, 2, 2)), 0)
        self.assertEqual(chain_count((1, 1, 3), (1, 2, 3)), 0)
        self.assertEqual(chain_count((1, 2, 3, 3, 5, 5, 6, 8), (1, 2, 3, 3, 5, 5, 6, 8)), 1)
        self.assertEqual(chain_count((1,) * 8, (1, 2, 3, 4, 5, 6, 7, 8)), 0)

    def test_from_the_highest_to_the_lowest(self):
        # Fillings of a staircase of boxes, by the lengths of their hooks.
        for size in range(2, 9):
            hooks = 1
            for row in range(1, size):
                for odd in range(row):
                    hooks *= 2 * odd + 1
            ways = math.factorial(size * (size - 1) // 2) // hooks
            self.assertEqual(chain_count(tuple(range(1, size + 1)), (1,) * size), ways)
