"""Point 2: sizes, bells, signs."""

import itertools
import unittest

from bellcopies.rows import ring, said, sayings
from tests.support import slow_ring


class Ring(unittest.TestCase):
    def test_each_short_row_of_bells(self):
        for size in (2, 3, 4, 5):
            for many in range(5):
                for bells in itertools.product(range(2, size + 1), repeat=many):
                    self.assertEqual(ring(size, bells), slow_ring(size, bells))

    def test_bells_ring_in_their_order(self):
        self.assertEqual(ring(3, (2, 3)), (1, 1, 1))
        self.assertEqual(ring(3, (3, 2)), (1, 1, 2))

    def test_least_and_greatest_size(self):
        self.assertEqual(ring(2, ()), (1, 2))
        self.assertEqual(ring(2, (2,)), (1, 1))
        self.assertEqual(ring(8, ()), (1, 2, 3, 4, 5, 6, 7, 8))
        self.assertEqual(ring(8, (8, 7, 6)), (1, 2, 3, 4, 5, 5, 6, 7))
        self.assertEqual(ring(8, (2, 3, 4, 5, 6, 7, 8)), (1,) * 8)

    def test_sixty_bells(self):
        bells = (8, 7, 6, 5, 4, 3) * 10
        self.assertEqual(ring(8, bells), slow_ring(8, bells))
        self.assertEqual(ring(8, bells), (1, 2, 2, 2, 2, 2, 2, 2))


class Said(unittest.TestCase):
    def test_signs_go_as_in_ring(self):
        for signs in ((5, 6, 7), (0, 99, 0), (4, 4, 4)):
            for bells in itertools.product((2, 3), repeat=4):
                numbers = slow_ring(3, bells)
                self.assertEqual(said(signs, bells), tuple(signs[number - 1] for number in numbers))

    def test_fewest_and_most_people(self):
        self.assertEqual(said((0, 99), (2,)), (0, 0))
        self.assertEqual(said((9, 8, 7, 6, 5, 4, 3, 2), (8, 8, 7)), (9, 8, 7, 6, 5, 4, 4, 3))

    def test_no_bells_leave_the_signs(self):
        self.assertEqual(said((3, 1, 2), ()), (3, 1, 2))


class Sayings(unittest.TestCase):
    def test_a_row_before_the_first_bell_and_behind_each(self):
        self.assertEqual(sayings((1, 2), ()), ((1, 2),))
        self.assertEqual(sayings((1,) * 8, (8,)), ((1,) * 8, (1,) * 8))
        self.assertEqual(sayings((5, 6, 7), (3, 2, 2)), ((5, 6, 7), (5, 6, 6), (5, 5, 6), (5, 5, 6)))

    def test_each_row_is_what_is_said_behind_so_many_bells(self):
        bells = (4, 2, 3, 4, 2, 3, 3)
        rows = sayings((9, 0, 5, 99), bells)
        self.assertEqual(rows, tuple(said((9, 0, 5, 99), bells[:many]) for many in range(8)))

    def test_sixty_bells(self):
        self.assertEqual(len(sayings((1, 2), (2,) * 60)), 61)
