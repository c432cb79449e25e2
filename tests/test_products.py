"""Point 6: stairs one after another."""

import itertools
import unittest

from bellcopies.products import (
    combined, goes_before, goes_on, is_steady, power, rest_of, steady_count, steady_stairs,
)
from tests.support import behind_bell, shortest_bells, shortest_words, slow_ring, slow_stairs

FIRST = {size: tuple(range(1, size + 1)) for size in range(2, 9)}


def words_of(size):
    """A dict from each stair of a size to one of its rows of bells."""
    return {stair: word for stair, (_, word, _) in shortest_bells(size).items()}


class Combined(unittest.TestCase):
    def test_is_what_both_rows_of_bells_ring(self):
        for size in (2, 3, 4, 5):
            words = words_of(size)
            for one, other in itertools.product(words, words):
                self.assertEqual(combined(one, other), slow_ring(size, words[one] + words[other]))

    def test_greatest_size(self):
        words = words_of(8)
        some = sorted(words)[::97]
        for one, other in itertools.product(some, some):
            self.assertEqual(combined(one, other), slow_ring(8, words[one] + words[other]))

    def test_order_matters(self):
        self.assertEqual(combined((1, 1, 3), (1, 2, 2)), (1, 1, 1))
        self.assertEqual(combined((1, 2, 2), (1, 1, 3)), (1, 1, 2))


class Power(unittest.TestCase):
    def test_so_many_times(self):
        for size in (2, 3, 4):
            for stair, word in words_of(size).items():
                for many in (0, 1, 2, 3, 4, 5, 99, 100):
                    self.assertEqual(power(stair, many), slow_ring(size, word * many))

    def test_no_times_and_a_hundred_times(self):
        self.assertEqual(power((1, 1, 2, 3), 0), (1, 2, 3, 4))
        self.assertEqual(power((1, 1, 2, 3), 100), (1, 1, 1, 1))
        self.assertEqual(power((1, 1, 2, 3, 4, 5, 6, 7), 6), (1, 1, 1, 1, 1, 1, 1, 2))
        self.assertEqual(power((1, 1, 2, 3, 4, 5, 6, 7), 7), (1,) * 8)


class RestOf(unittest.TestCase):
    def test_least_number_of_times(self):
        for size in (2, 3, 4, 5, 6):
            for stair, word in words_of(size).items():
                times = 0
                while slow_ring(size, word * times) != slow_ring(size, word * (times + 1)):
                    times += 1
                self.assertEqual(rest_of(stair), times)

    def test_edges(self):
        self.assertEqual(rest_of((1, 2)), 0)
        self.assertEqual(rest_of((1, 1)), 1)
        self.assertEqual(rest_of(FIRST[8]), 0)
        self.assertEqual(rest_of((1, 1, 2, 3, 4, 5, 6, 7)), 7)


class Steady(unittest.TestCase):
    def test_is_steady(self):
        for size in (2, 3, 4, 5, 6):
            for stair, word in words_of(size).items():
                self.assertIs(is_steady(stair), slow_ring(size, word + word) == stair)

    def test_steady_stairs_ascend(self):
        for size in (2, 3, 4, 5, 6):
            expected = tuple(stair for stair in slow_stairs(size) if is_steady(stair))
            self.assertEqual(steady_stairs(size), expected)

    def test_every_size(self):
        for size in range(2, 9):
            words = words_of(size)
            expected = sorted(stair for stair, word in words.items() if slow_ring(size, word + word) == stair)
            self.assertEqual(steady_stairs(size), tuple(expected))
            self.assertEqual(steady_count(size), len(expected))
        self.assertEqual([steady_count(size) for size in range(2, 9)], [2, 4, 8, 16, 32, 64, 128])


class GoesOn(unittest.TestCase):
    def test_smallest_of_the_shortest_rows(self):
        for size in (2, 3, 4, 5):
            for one in slow_stairs(size):
                known = shortest_words(one, range(2, size + 1), behind_bell)
                for other in slow_stairs(size):
                    expected = known[other][1] if other in known else None
                    self.assertEqual(goes_on(one, other), expected)

    def test_out_of_all_short_rows(self):
        for one in slow_stairs(3):
            found = {}
            for many in range(6):
                for bells in itertools.product((2, 3), repeat=many):
                    row = one
                    for bell in bells:
                        row = behind_bell(row, bell)
                    found.setdefault(row, bells)
            for other in slow_stairs(3):
                self.assertEqual(goes_on(one, other), found.get(other))

    def test_greatest_size(self):
        self.assertEqual(goes_on(FIRST[8], (1,) * 8), (2, 3, 4, 5, 6, 7, 8))
        self.assertEqual(goes_on((1,) * 8, (1,) * 8), ())
        self.assertIsNone(goes_on((1,) * 8, FIRST[8]))
        known = shortest_words((1, 1, 2, 2, 5, 5, 6, 8), range(2, 9), behind_bell)
        for other in sorted(known)[::7]:
            self.assertEqual(goes_on((1, 1, 2, 2, 5, 5, 6, 8), other), known[other][1])


class GoesBefore(unittest.TestCase):
    def test_out_of_all_rows_by_their_stairs(self):
        for size in (2, 3, 4, 5):
            known = shortest_bells(size)
            words = words_of(size)
            for one in words:
                best = {}
                for length, word, _ in known.values():
                    other = slow_ring(size, word + words[one])
                    best[other] = min(best.get(other, (length, word)), (length, word))
                for other in words:
                    expected = best[other][1] if other in best else None
                    self.assertEqual(goes_before(one, other), expected)

    def test_out_of_all_short_rows(self):
        words = words_of(3)
        for one in words:
            found = {}
            for many in range(6):
                for bells in itertools.product((2, 3), repeat=many):
                    found.setdefault(slow_ring(3, bells + words[one]), bells)
            for other in words:
                self.assertEqual(goes_before(one, other), found.get(other))

    def test_before_and_on_are_not_alike(self):
        self.assertEqual(goes_before((1, 2, 2), (1, 1, 1)), (2,))
        self.assertEqual(goes_on((1, 2, 2), (1, 1, 1)), (2, 3))
        self.assertEqual(goes_before((1, 1, 1), (1, 1, 1)), ())
        self.assertIsNone(goes_before((1, 1, 1), (1, 1, 2)))

    def test_greatest_size(self):
        self.assertEqual(goes_before(FIRST[8], (1,) * 8), (2, 3, 4, 5, 6, 7, 8))
        self.assertEqual(goes_before((1,) * 8, (1,) * 8), ())
        self.assertIsNone(goes_before((1,) * 8, FIRST[8]))
