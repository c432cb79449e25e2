"""Point 18: hearings."""

import itertools
import random
import unittest

from bellcopies.errors import BadHearings, NoFit, TooMany
from bellcopies.hearings import first_unfit, fitting, surely
from tests.support import error_of, shortest_bells, slow_stairs

# For each size the stairs with bells that have them.
BELLS = {size: {stair: bells for stair, (_, bells, _) in shortest_bells(size).items()} for size in range(2, 7)}


def said_behind(signs, bells):
    """What is said behind bells, bell by bell."""
    says = list(signs)
    for bell in bells:
        says[bell - 1] = says[bell - 2]
    return tuple(says)


def slow_fitting(size, hearings):
    return tuple(
        stair for stair in sorted(BELLS[size])
        if all(said_behind(before, BELLS[size][stair]) == behind for before, behind in hearings)
    )


def cases():
    """Hearings of all bells of small sizes and by chance, that fit or do not."""
    for signs in itertools.product(range(2), repeat=3):
        for behind in itertools.product(range(2), repeat=3):
            yield 3, ((signs, behind),)
    chance = random.Random(60)
    for _ in range(400):
        size = chance.randint(2, 6)
        stair = chance.choice(sorted(BELLS[size]))
        found = []
        for _ in range(chance.randint(1, 6)):
            before = tuple(chance.randint(0, chance.choice((1, 2, 99))) for _ in range(size))
            if chance.random() < 0.1:
                stair = chance.choice(sorted(BELLS[size]))
            found.append((before, said_behind(before, BELLS[size][stair])))
        yield size, tuple(found)


class Fitting(unittest.TestCase):
    def test_out_of_all_stairs(self):
        several = 0
        for size, hearings in cases():
            found = slow_fitting(size, hearings)
            several += len(found) > 1
            self.assertEqual(fitting(hearings), found)
        self.assertGreater(several, 50)

    def test_what_does_not_tell(self):
        for size in range(2, 7):
            for many in (1, 6):
                self.assertEqual(fitting((((7,) * size, (7,) * size),) * many), slow_stairs(size))
        self.assertEqual(len(fitting((((0,) * 6, (0,) * 6),))), 132)

    def test_what_tells_all(self):
        for size in range(2, 7):
            for stair in BELLS[size]:
                self.assertEqual(fitting(((tuple(range(1, size + 1)), stair),)), (stair,))

    def test_what_cannot_be(self):
        self.assertEqual(fitting((((1, 2), (2, 2)),)), ())
        self.assertEqual(fitting((((1, 2), (1, 3)),)), ())
        self.assertEqual(fitting((((1, 2, 3), (1, 2, 1)),)), ())
        self.assertEqual(fitting((((1, 2), (1, 2)), ((1, 2), (1, 1)))), ())


class FirstUnfit(unittest.TestCase):
    def test_out_of_all_stairs(self):
        answers = set()
        for size, hearings in cases():
            unfit = [many for many in range(1, len(hearings) + 1) if not slow_fitting(size, hearings[:many])]
            answers.add(min(unfit, default=None))
            self.assertEqual(first_unfit(hearings), min(unfit, default=None))
        self.assertTrue({None, 1, 2, 3} <= answers)

    def test_edges(self):
        good, bad = ((1, 2), (1, 2)), ((1, 2), (2, 1))
        self.assertIsNone(first_unfit((good,)))
        self.assertIsNone(first_unfit((good,) * 6))
        self.assertEqual(first_unfit((bad,) * 6), 1)
        self.assertEqual(first_unfit((good,) * 5 + (bad,)), 6)
        # Each fits something, but no stair fits both.
        self.assertEqual(first_unfit((good, ((3, 4), (3, 3)))), 2)


class Surely(unittest.TestCase):
    def test_out_of_all_stairs(self):
        for size, hearings in cases():
            found = slow_fitting(size, hearings)
            if found:
                columns = [set(column) for column in zip(*found)]
                self.assertEqual(surely(hearings), tuple(min(col) if len(col) == 1 else None for col in columns))
            else:
                self.assertIs(type(error_of(surely, (hearings,))), NoFit)

    def test_edges(self):
        self.assertEqual(surely((((1, 1), (1, 1)),)), (1, None))
        self.assertEqual(surely((((1, 2), (1, 1)),)), (1, 1))
        self.assertEqual(surely((((1, 2, 2), (1, 2, 2)),)), (1, 2, None))
        self.assertEqual(surely((((0,) * 6, (0,) * 6),)), (1, None, None, None, None, None))

    def test_what_fits_nothing(self):
        self.assertIs(type(error_of(surely, ((((1, 2), (2, 2)),),))), NoFit)
        # A seventh person is too many even where nothing fits.
        for size in (7, 8):
            error = error_of(surely, ((((1,) * size, (2,) * size),),))
            self.assertIs(type(error), TooMany)
            self.assertEqual(error.most, 6)


class Limits(unittest.TestCase):
    def test_lengths(self):
        for function in (fitting, first_unfit, surely):
            for size in (7, 8):
                error = error_of(function, ((((1,) * size, (1,) * size),),))
                self.assertIs(type(error), TooMany)
                self.assertEqual(error.most, 6)
            for size in (0, 1, 9):
                error = error_of(function, ((((1,) * size, (1,) * size),),))
                self.assertIs(type(error), BadHearings)
                self.assertEqual(error.index, 0)

    def test_first_bad_pair(self):
        good = ((1, 2, 3), (1, 2, 3))
        cases = (
            ((good, ((1, 2), (1, 2)), good), 1), ((good, good, ((1, 2), (1, 2, 3)), None), 2), ((None, good), 0),
            ((((1, 2), (1, 2)), good), 1), ((((1, 2), (1, 2, 3)), good), 0), (((((1,) * 7),) * 2, good), 1),
            ((good,) * 5 + (((0, 0, 100), (0, 0, 0)),), 5), ((good,) * 7, None), ((), None), (good, 0),
        )
        for hearings, index in cases:
            for function in (fitting, first_unfit, surely):
                error = error_of(function, (hearings,))
                self.assertIs(type(error), BadHearings, hearings)
                self.assertEqual(error.index, index, hearings)
