"""Point 34: stairs between others, and who still says what."""

import random
import unittest

from bellcopies.between import between_count, lost, own, single, steady_above, steady_below
from bellcopies.products import combined
from tests.support import slow_ring, slow_stairs


def cases():
    """All stairs of few people, and some of many."""
    chance = random.Random(250)
    for size in (2, 3, 4, 5):
        yield from slow_stairs(size)
    for size in (6, 7, 8):
        for _ in range(25):
            # Bells by chance come to stairs of all ranks.
            bells = tuple(chance.randint(2, size) for _ in range(chance.randint(0, 12)))
            yield slow_ring(size, bells)
        yield (1,) * size
        yield tuple(range(1, size + 1))


def below(one, other):
    return all(entry <= limit for entry, limit in zip(one, other))


def twice(stair):
    """The stair of bells that ring twice."""
    return tuple(stair[number - 1] for number in stair)


STAIRS = {size: slow_stairs(size) for size in range(2, 7)}
# Of 7 and 8 people, row by row instead of out of all rows of numbers.
for longer in (7, 8):
    STAIRS[longer] = tuple(
        stair + (entry,) for stair in STAIRS[longer - 1] for entry in range(stair[-1], longer + 1)
    )
STEADY = {size: [stair for stair in STAIRS[size] if twice(stair) == stair] for size in STAIRS}


class BetweenCount(unittest.TestCase):
    def test_each_pair_of_few_people(self):
        for size in (2, 3, 4):
            for one in STAIRS[size]:
                for other in STAIRS[size]:
                    expected = sum(below(other, stair) and below(stair, one) for stair in STAIRS[size])
                    self.assertEqual(between_count(one, other), expected)

    def test_some_pairs_of_many_people(self):
        chance = random.Random(251)
        found = set()
        for size in (5, 6, 7, 8):
            for _ in range(30):
                one, other = chance.choice(STAIRS[size]), chance.choice(STAIRS[size])
                low = tuple(min(pair) for pair in zip(one, other))
                for pair in ((one, other), (one, low), (other, low), (low, one)):
                    expected = sum(below(pair[1], stair) and below(stair, pair[0]) for stair in STAIRS[size])
                    self.assertEqual(between_count(*pair), expected)
                    found.add(min(expected, 2))
        self.assertEqual(found, {0, 1, 2})

    def test_edges(self):
        for size, many in zip(range(2, 9), (2, 5, 14, 42, 132, 429, 1430)):
            top, bottom = tuple(range(1, size + 1)), (1,) * size
            self.assertEqual(between_count(top, bottom), many)
            self.assertEqual(between_count(bottom, top), 0)
            self.assertEqual(between_count(top, top), 1)
            self.assertEqual(between_count(bottom, bottom), 1)
        # Of two stairs neither of which is below the other, none is between.
        self.assertEqual(between_count((1, 1, 3), (1, 2, 2)), 0)
        self.assertEqual(between_count((1, 2, 2), (1, 1, 3)), 0)


class SteadyBelow(unittest.TestCase):
    def test_greatest(self):
        for stair in cases():
            value = steady_below(stair)
            lower = [steady for steady in STEADY[len(stair)] if below(steady, stair)]
            self.assertIn(value, lower)
            self.assertTrue(all(below(steady, value) for steady in lower), (stair, value))

    def test_edges(self):
        for size in range(2, 9):
            top, bottom = tuple(range(1, size + 1)), (1,) * size
            self.assertEqual(steady_below(top), top)
            self.assertEqual(steady_below(bottom), bottom)
            self.assertEqual(steady_below((1,) + top[:-1]), bottom)
        self.assertEqual(steady_below((1, 1, 2, 4)), (1, 1, 1, 4))


class SteadyAbove(unittest.TestCase):
    def test_all_least(self):
        many = set()
        for stair in cases():
            value = steady_above(stair)
            upper = [steady for steady in STEADY[len(stair)] if below(stair, steady)]
            least = [one for one in upper if not any(other != one and below(other, one) for other in upper)]
            self.assertEqual(value, tuple(sorted(least)), stair)
            many.add(len(value))
        self.assertTrue({1, 2, 3} <= many)

    def test_edges(self):
        for size in range(2, 9):
            top, bottom = tuple(range(1, size + 1)), (1,) * size
            self.assertEqual(steady_above(top), (top,))
            self.assertEqual(steady_above(bottom), (bottom,))
        self.assertEqual(steady_above((1, 1, 2)), ((1, 1, 3), (1, 2, 2)))

    def test_steady_stairs_are_their_own(self):
        for size in STEADY:
            for stair in STEADY[size]:
                self.assertEqual(combined(stair, stair), stair)
                self.assertEqual(steady_below(stair), stair)
                self.assertEqual(steady_above(stair), (stair,))


class Single(unittest.TestCase):
    def test_each_bell(self):
        for stair in cases():
            size = len(stair)
            expected = tuple(bell for bell in range(2, size + 1) if below(stair, slow_ring(size, (bell,))))
            self.assertEqual(single(stair), expected)

    def test_edges(self):
        for size in range(2, 9):
            self.assertEqual(single(tuple(range(1, size + 1))), ())
            self.assertEqual(single((1,) * size), tuple(range(2, size + 1)))


class OwnAndLost(unittest.TestCase):
    def test_each_person(self):
        for stair in cases():
            says = dict(enumerate(stair, 1))
            self.assertEqual(own(stair), tuple(person for person in says if says[person] == person))
            self.assertEqual(lost(stair), tuple(person for person in says if person not in says.values()))

    def test_edges(self):
        for size in range(2, 9):
            top, bottom = tuple(range(1, size + 1)), (1,) * size
            self.assertEqual((own(top), lost(top)), (top, ()))
            self.assertEqual((own(bottom), lost(bottom)), ((1,), top[1:]))
        # Said by somebody, but not by the person itself.
        self.assertEqual((own((1, 1, 2)), lost((1, 1, 2))), ((1,), (3,)))
