"""Point 3: climbs."""

import itertools
import unittest

from bellcopies.climbs import climb, shows_climb
from tests.support import slow_ring, strange_values


def slow_climbs(bells, first, last):
    """All climbs, out of all ascending tuples of indexes."""
    wanted = tuple(range(first + 1, last + 1))
    rows = itertools.combinations(range(len(bells)), last - first)
    return [row for row in rows if tuple(bells[index] for index in row) == wanted]


def short_cases():
    for size in (2, 3, 4):
        for many in range(5):
            for bells in itertools.product(range(2, size + 1), repeat=many):
                for first in range(1, size + 1):
                    for last in range(first, size + 1):
                        yield size, bells, first, last


class Climb(unittest.TestCase):
    def test_a_climb_where_there_is_one(self):
        for size, bells, first, last in short_cases():
            found = climb(size, bells, first, last)
            climbs = slow_climbs(bells, first, last)
            if climbs:
                self.assertIn(found, climbs)
            else:
                self.assertIsNone(found)

    def test_the_least_beginning_is_whose_sign_is_said(self):
        for bells in itertools.product((2, 3, 4), repeat=5):
            for person, number in enumerate(slow_ring(4, bells), 1):
                starts = [first for first in range(1, person + 1) if climb(4, bells, first, person) is not None]
                self.assertEqual(starts[0], number)

    def test_from_a_person_to_the_same(self):
        self.assertEqual(climb(2, (), 1, 1), ())
        self.assertEqual(climb(8, (8,) * 60, 8, 8), ())

    def test_greatest_size_and_sixty_bells(self):
        bells = (5,) * 53 + (2, 3, 4, 5, 6, 7, 8)
        self.assertEqual(climb(8, bells, 1, 8), tuple(range(53, 60)))
        self.assertIsNone(climb(8, tuple(reversed(bells)), 1, 8))


class ShowsClimb(unittest.TestCase):
    def test_each_tuple_of_indexes(self):
        for size, bells, first, last in short_cases():
            climbs = slow_climbs(bells, first, last)
            for value in itertools.product(range(-1, len(bells) + 1), repeat=last - first):
                self.assertIs(shows_climb(size, bells, first, last, value), value in climbs)
            self.assertIs(shows_climb(size, bells, first, last, None), not climbs)

    def test_what_climb_returns_is_shown(self):
        for size, bells, first, last in short_cases():
            self.assertIs(shows_climb(size, bells, first, last, climb(size, bells, first, last)), True)

    def test_any_climb_is_shown_not_only_one(self):
        self.assertIs(shows_climb(3, (2, 2, 3, 3), 1, 3, (0, 3)), True)
        self.assertIs(shows_climb(3, (2, 2, 3, 3), 1, 3, (1, 2)), True)

    def test_wrong_lengths(self):
        self.assertIs(shows_climb(3, (2, 3), 1, 3, (0,)), False)
        self.assertIs(shows_climb(3, (2, 3), 1, 3, (0, 1, 1)), False)
        self.assertIs(shows_climb(3, (2, 3), 2, 2, ()), True)
        self.assertIs(shows_climb(3, (2, 3), 2, 2, (0,)), False)

    def test_indexes_below_zero_are_none(self):
        self.assertIs(shows_climb(3, (2, 3), 1, 3, (-2, -1)), False)

    def test_true_is_no_index(self):
        self.assertIs(shows_climb(3, (2, 3), 1, 3, (0, 1)), True)
        self.assertIs(shows_climb(3, (2, 3), 1, 3, (False, True)), False)
        self.assertIs(shows_climb(2, (2,), 1, 2, (False,)), False)

    def test_lists_are_no_climbs(self):
        self.assertIs(shows_climb(3, (2, 3), 1, 3, [0, 1]), False)
        self.assertIs(shows_climb(3, (2, 3), 2, 2, []), False)

    def test_strange_values(self):
        for value in strange_values():
            with self.subTest(value=value):
                self.assertIs(shows_climb(4, (2, 3, 4), 1, 4, value), False)
                self.assertIs(shows_climb(4, (4, 3, 2), 1, 4, value), value is None)
