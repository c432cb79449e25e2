"""Point 5: bells that do the same."""

import itertools
import unittest

from bellcopies.alike import core, needless, same, shortened, shows_core, shows_telling, telling
from bellcopies.stairs import bell_count, bells_of
from tests.support import shortest_bells, slow_ring, strange_values

LONG = (
    (8, (2, 3, 4, 5, 6, 7, 8, 8, 7, 6, 5, 4, 3, 2) * 4 + (5, 4, 8, 2)),
    (8, (8, 7, 6, 5, 4, 3) * 10),
    (5, (3, 5, 2, 4) * 15),
    (2, (2,) * 60),
)


def some_bells(size, longest):
    for many in range(longest + 1):
        for bells in itertools.product(range(2, size + 1), repeat=many):
            yield bells


class Same(unittest.TestCase):
    def test_pairs_of_short_rows(self):
        for size in (2, 3, 4):
            rows = list(some_bells(size, 3))
            for one, other in itertools.product(rows, rows):
                self.assertIs(same(size, one, other), slow_ring(size, one) == slow_ring(size, other))

    def test_empty_bells(self):
        self.assertIs(same(8, (), ()), True)
        self.assertIs(same(8, (), (8,)), False)


class Telling(unittest.TestCase):
    def test_pairs_of_short_rows(self):
        for size in (2, 3, 4):
            rows = list(some_bells(size, 3))
            for one, other in itertools.product(rows, rows):
                stair, against = slow_ring(size, one), slow_ring(size, other)
                people = [at + 1 for at in range(size) if stair[at] != against[at]]
                found = telling(size, one, other)
                if people:
                    self.assertIn(found, people)
                else:
                    self.assertIsNone(found)
                self.assertIs(shows_telling(size, one, other, None), not people)
                for value in range(-1, size + 2):
                    self.assertIs(shows_telling(size, one, other, value), value in people)

    def test_any_such_person_is_shown(self):
        self.assertIs(shows_telling(3, (), (3, 2), 2), True)
        self.assertIs(shows_telling(3, (), (3, 2), 3), True)
        self.assertIs(shows_telling(3, (), (3, 2), 1), False)

    def test_strange_values(self):
        for value in strange_values():
            with self.subTest(value=value):
                expected = value == 2 and not isinstance(value, bool)
                self.assertIs(shows_telling(2, (), (2,), value), expected)
                self.assertIs(shows_telling(2, (2, 2), (2,), value), value is None)

    def test_true_is_no_person(self):
        self.assertIs(shows_telling(2, (), (2,), True), False)


class Shortened(unittest.TestCase):
    def test_smallest_of_the_shortest_rows(self):
        for size in (2, 3, 4):
            known = shortest_bells(size)
            for bells in some_bells(size, 5):
                self.assertEqual(shortened(size, bells), known[slow_ring(size, bells)][1])

    def test_long_rows(self):
        for size, bells in LONG:
            self.assertEqual(len(bells), 60)
            self.assertEqual(shortened(size, bells), bells_of(slow_ring(size, bells)))


class Needless(unittest.TestCase):
    def test_each_bell_by_itself(self):
        rows = [(size, bells) for size in (2, 3, 4) for bells in some_bells(size, 5)]
        for size, bells in rows + list(LONG):
            stair = slow_ring(size, bells)
            expected = tuple(
                at for at in range(len(bells)) if slow_ring(size, bells[:at] + bells[at + 1:]) == stair
            )
            self.assertEqual(needless(size, bells), expected)

    def test_both_of_two_alike(self):
        self.assertEqual(needless(3, (2, 2)), (0, 1))
        self.assertEqual(needless(3, (3, 2)), ())
        self.assertEqual(needless(2, ()), ())


class Core(unittest.TestCase):
    def slow_shows(self, size, bells, value):
        stair = slow_ring(size, bells)
        right = len(value) == bell_count(stair) and list(value) == sorted(set(value))
        return right and slow_ring(size, [bells[at] for at in value]) == stair

    def test_short_rows(self):
        for size in (2, 3, 4, 5):
            for bells in some_bells(size, 5):
                value = core(size, bells)
                self.assertTrue(self.slow_shows(size, bells, value))
                self.assertIs(shows_core(size, bells, value), True)

    def test_long_rows(self):
        for size, bells in LONG:
            value = core(size, bells)
            self.assertTrue(self.slow_shows(size, bells, value))
            self.assertIs(shows_core(size, bells, value), True)

    def test_each_tuple_of_indexes(self):
        for bells in some_bells(4, 4):
            for many in range(len(bells) + 1):
                for value in itertools.product(range(-1, len(bells) + 1), repeat=many):
                    there = all(0 <= index < len(bells) for index in value)
                    expected = there and self.slow_shows(4, bells, value)
                    self.assertIs(shows_core(4, bells, value), expected)

    def test_any_core_is_shown(self):
        self.assertIs(shows_core(3, (2, 2, 3), (0, 2)), True)
        self.assertIs(shows_core(3, (2, 2, 3), (1, 2)), True)
        self.assertIs(shows_core(3, (2, 2, 3), (2, 1)), False)
        self.assertIs(shows_core(3, (2, 2, 3), (0, 1, 2)), False)

    def test_empty_bells(self):
        self.assertEqual(core(8, ()), ())
        self.assertIs(shows_core(8, (), ()), True)
        self.assertIs(shows_core(8, (), (0,)), False)
        self.assertIs(shows_core(8, (), None), False)

    def test_strange_values(self):
        for value in strange_values():
            with self.subTest(value=value):
                self.assertIs(shows_core(4, (2, 3, 4), value), False)
                self.assertIs(shows_core(4, (), value), value == ())

    def test_indexes_that_are_none(self):
        self.assertIs(shows_core(3, (2, 3), (False, True)), False)
        self.assertIs(shows_core(3, (2, 3), (-2, -1)), False)
        self.assertIs(shows_core(3, (2, 3), [0, 1]), False)
        self.assertIs(shows_core(3, (2, 3), (0, 2)), False)
