"""Point 4: stairs."""

import itertools
import unittest

from bellcopies.errors import BadSize, BadStair, TooMany
from bellcopies.rows import ring
from bellcopies.stairs import all_bells, bell_count, bells_of, row_count, stair_count, stairs
from tests.support import error_of, shortest_bells, slow_ring, slow_stairs


def slow_rows(size):
    """A dict from each stair to the ascending list of all its shortest rows, out of all rows of bells."""
    missing = set(slow_stairs(size))
    found = {}
    for many in itertools.count():
        if not missing:
            return found
        for bells in itertools.product(range(2, size + 1), repeat=many):
            stair = slow_ring(size, bells)
            if stair in missing:
                found.setdefault(stair, []).append(bells)
        missing -= set(found)


class Stairs(unittest.TestCase):
    def test_all_stairs(self):
        for size in (2, 3, 4, 5, 6):
            self.assertEqual(stairs(size), slow_stairs(size))

    def test_size_seven(self):
        rows = stairs(7)
        self.assertEqual(len(rows), 429)
        self.assertEqual(rows, tuple(sorted(set(shortest_bells(7)))))

    def test_limit(self):
        error = error_of(stairs, (8,))
        self.assertIs(type(error), TooMany)
        self.assertEqual(error.most, 7)
        self.assertIs(type(error_of(stairs, (9,))), BadSize)

    def test_what_ring_returns_is_a_stair_and_each_comes(self):
        come = {ring(4, bells) for many in range(7) for bells in itertools.product((2, 3, 4), repeat=many)}
        self.assertEqual(come, set(stairs(4)))


class StairCount(unittest.TestCase):
    def test_each_size(self):
        counts = [stair_count(size) for size in range(2, 9)]
        self.assertEqual(counts, [2, 5, 14, 42, 132, 429, 1430])
        self.assertEqual(counts[:6], [len(stairs(size)) for size in range(2, 8)])


class ShortestRows(unittest.TestCase):
    def test_out_of_all_rows_of_bells(self):
        for size in (2, 3, 4, 5):
            for stair, rows in slow_rows(size).items():
                self.assertEqual(all_bells(stair), tuple(rows))
                self.assertEqual(bells_of(stair), rows[0])
                self.assertEqual(bell_count(stair), len(rows[0]))
                self.assertEqual(row_count(stair), len(rows))

    def test_each_stair_of_greater_sizes(self):
        for size in (6, 7, 8):
            for stair, (length, bells, many) in shortest_bells(size).items():
                self.assertEqual((bell_count(stair), bells_of(stair), row_count(stair)), (length, bells, many))

    def test_no_bells(self):
        for size in range(2, 9):
            first = tuple(range(1, size + 1))
            self.assertEqual((bells_of(first), bell_count(first), row_count(first)), ((), 0, 1))
            self.assertEqual(all_bells(first), ((),))

    def test_the_formula_of_the_document(self):
        for stair in stairs(6):
            places = {number: place for place, number in enumerate(stair, 1)}
            self.assertEqual(bell_count(stair), sum(last - number for number, last in places.items()))

    def test_answers_are_stable(self):
        stair = (1, 1, 2, 2, 5, 5)
        self.assertEqual(all_bells(stair), all_bells(stair))
        self.assertEqual(bells_of(stair), bells_of(stair))


class AllBells(unittest.TestCase):
    def test_rows_are_ascending_and_right(self):
        for stair in stairs(6):
            rows = all_bells(stair)
            self.assertEqual(list(rows), sorted(set(rows)))
            self.assertEqual(len(rows), row_count(stair))
            for bells in rows:
                self.assertEqual((slow_ring(6, bells), len(bells)), (stair, bell_count(stair)))

    def test_limit_of_three_hundred(self):
        exactly = [stair for stair in shortest_bells(8) if row_count(stair) == 300]
        self.assertEqual(len(exactly), 8)
        for stair in exactly:
            rows = all_bells(stair)
            self.assertEqual(len(set(rows)), 300)
            self.assertEqual(list(rows), sorted(rows))
            for bells in rows:
                self.assertEqual(slow_ring(8, bells), stair)

    def test_more_than_three_hundred(self):
        least = 10 ** 9
        for stair, (_, _, many) in shortest_bells(8).items():
            if many > 300:
                least = min(least, many)
                error = error_of(all_bells, (stair,))
                self.assertIs(type(error), TooMany)
                self.assertEqual(error.most, 300)
        self.assertEqual(least, 324)
        self.assertEqual(row_count((1, 1, 1, 1, 1, 2, 3, 4)), 24024)

    def test_not_a_stair_rather_than_too_many(self):
        self.assertIs(type(error_of(all_bells, ((1, 1, 1, 1, 1, 2, 3, 9),))), BadStair)
