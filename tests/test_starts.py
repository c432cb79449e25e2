"""Point 19: starts that tell stairs apart."""

import itertools
import random
import unittest

from bellcopies.errors import BadSize, BadStarts, TooMany
from bellcopies.starts import best_starts, fewest_starts, not_told, shows_not_told, tells_all
from tests.support import error_of, slow_stairs, strange_values


def made_of(starts, stair):
    """What a stair makes of all starts."""
    return tuple(tuple(signs[person - 1] for person in stair) for signs in starts)


def slow_tells(size, starts):
    return len({made_of(starts, stair) for stair in slow_stairs(size)}) == len(slow_stairs(size))


def slow_best(size, kinds):
    """The smallest of the shortest tuples of starts that tell all stairs, out of all tuples."""
    rows = list(itertools.product(range(kinds), repeat=size))
    for many in itertools.count():
        for starts in itertools.product(rows, repeat=many):
            if slow_tells(size, starts):
                return starts


def cases():
    """All pairs of starts of small sizes, and starts by chance."""
    for size in (2, 3):
        rows = list(itertools.product(range(3), repeat=size))
        for many in (0, 1, 2):
            for starts in itertools.product(rows, repeat=many):
                yield size, starts
    chance = random.Random(70)
    for _ in range(300):
        size = chance.randint(2, 5)
        most = chance.choice((1, 2, 3, 99))
        yield size, tuple(tuple(chance.randint(0, most) for _ in range(size)) for _ in range(chance.randint(0, 6)))


class Telling(unittest.TestCase):
    def test_out_of_all_stairs(self):
        answers = {True: 0, False: 0}
        for size, starts in cases():
            expected = slow_tells(size, starts)
            answers[expected] += 1
            self.assertIs(tells_all(size, starts), expected)
            value = not_told(size, starts)
            if expected:
                self.assertIsNone(value)
            else:
                one, other = value
                self.assertNotEqual(one, other)
                self.assertIn(one, slow_stairs(size))
                self.assertIn(other, slow_stairs(size))
                self.assertEqual(made_of(starts, one), made_of(starts, other))
            self.assertIs(shows_not_told(size, starts, value), True)
            self.assertIs(shows_not_told(size, starts, None), expected)
        self.assertGreater(min(answers.values()), 100)

    def test_edges(self):
        for size in (2, 3, 4, 5):
            self.assertIs(tells_all(size, ()), False)
            self.assertIs(tells_all(size, (tuple(range(size)),)), True)
            self.assertIs(tells_all(size, ((5,) * size,) * 6), False)
        self.assertIs(tells_all(4, ((0, 0, 1, 1), (0, 1, 0, 1))), True)
        self.assertIs(tells_all(5, ((0, 0, 1, 1, 1), (0, 1, 0, 1, 1))), False)


class ShowsNotTold(unittest.TestCase):
    def test_each_pair_of_rows(self):
        chance = random.Random(71)
        for size, starts in cases():
            if size < 4 and chance.random() < 0.1:
                stairs = slow_stairs(size)
                rows = stairs + ((1,) * (size + 1), (1,) * (size - 1), (2,) * size, (1,) * (size - 1) + (size + 1,))
                for one, other in itertools.product(rows, repeat=2):
                    fits = one in stairs and other in stairs and one != other
                    expected = fits and made_of(starts, one) == made_of(starts, other)
                    self.assertIs(shows_not_told(size, starts, (one, other)), expected)

    def test_strange_values(self):
        one, other = (1, 1), (1, 2)
        extra = (
            (one, other), (other, one), [one, other], (one, list(other)), (one, other, one), (one,), (one, None),
            ((True, 1), other), (one, "12"), (one, one), ((1, 1, 1), (1, 1, 2)), {one: other},
        )
        for value in strange_values() + extra:
            with self.subTest(value=value):
                expected = repr(value) in ("((1, 1), (1, 2))", "((1, 2), (1, 1))")
                self.assertIs(shows_not_told(2, ((3, 3),), value), expected)
                self.assertIs(shows_not_told(2, ((3, 4),), value), value is None)


class BestStarts(unittest.TestCase):
    def test_out_of_all_starts(self):
        for size in (2, 3, 4):
            for kinds in (2, 3, 4):
                expected = slow_best(size, kinds)
                self.assertEqual(best_starts(size, kinds), expected)
                self.assertEqual(fewest_starts(size, kinds), len(expected))

    def test_edges(self):
        self.assertEqual(best_starts(2, 2), ((0, 1),))
        self.assertEqual(best_starts(2, 4), ((0, 1),))
        self.assertEqual(best_starts(4, 4), ((0, 1, 2, 3),))
        self.assertEqual(best_starts(4, 2), ((0, 0, 1, 1), (0, 1, 0, 1)))
        self.assertEqual([fewest_starts(4, kinds) for kinds in (2, 3, 4)], [2, 2, 1])


class Limits(unittest.TestCase):
    def test_sizes(self):
        for size in (6, 7, 8):
            for function, arguments in (
                (tells_all, (size, ())), (not_told, (size, ((1,) * size,))), (shows_not_told, (size, (), None)),
            ):
                error = error_of(function, arguments)
                self.assertIs(type(error), TooMany)
                self.assertEqual(error.most, 5)
        for size in (5, 6, 7, 8):
            for function in (fewest_starts, best_starts):
                error = error_of(function, (size, 2))
                self.assertIs(type(error), TooMany)
                self.assertEqual(error.most, 4)
        for function, argument in ((tells_all, ()), (not_told, ()), (fewest_starts, 2), (best_starts, 2)):
            for size in (1, 9):
                self.assertIs(type(error_of(function, (size, argument))), BadSize)

    def test_starts_of_another_size(self):
        for size in range(2, 9):
            for other in range(10):
                if other != size:
                    for starts in (((1,) * other,), ((1,) * size, (1,) * other), ((1,) * other,) * 6):
                        self.assertIs(type(error_of(tells_all, (size, starts))), BadStarts)

    def test_many_starts(self):
        self.assertIs(tells_all(2, ((0, 1),) * 6), True)
        self.assertIs(type(error_of(tells_all, (2, ((0, 1),) * 7))), BadStarts)
