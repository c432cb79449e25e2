"""Point 17: beats."""

import itertools
import unittest

from bellcopies.beats import beat_win, beats_to
from bellcopies.errors import TooMany
from tests.support import arcs_among, error_of, people_of, small_webs, some_webs


def behind_beats(web, row):
    """All rows one beat behind a row, one for each choice of an arc, or none, for each person."""
    choices = []
    for person in people_of(web):
        choices.append([person] + [source for source, taker in web[1] if taker == person])
    return {tuple(row[source - 1] for source in choice) for choice in itertools.product(*choices)}


def least_beats(web):
    """A dict from each row to the least number of beats behind which it can be there."""
    known = {people_of(web): 0}
    level = [people_of(web)]
    while level:
        following = []
        for row in level:
            for new in behind_beats(web, row):
                if new not in known:
                    known[new] = known[row] + 1
                    following.append(new)
        level = following
    return known


def webs():
    return itertools.chain(*(small_webs(size) for size in (1, 2, 3)), some_webs(50, 12, (4,)))


class BeatWin(unittest.TestCase):
    def test_out_of_all_rows(self):
        for web in webs():
            known = least_beats(web)
            for person in people_of(web):
                self.assertEqual(beat_win(web, person), known.get((person,) * web[0]))

    def test_more_people(self):
        for web in some_webs(51, 150, (5, 6)):
            far = {(one, other): 0 if one == other else 99 for one in people_of(web) for other in people_of(web)}
            far.update({arc: 1 for arc in web[1]})
            for middle, one, other in itertools.product(people_of(web), repeat=3):
                far[one, other] = min(far[one, other], far[one, middle] + far[middle, other])
            for person in people_of(web):
                most = max(far[person, other] for other in people_of(web))
                self.assertEqual(beat_win(web, person), most if most < 99 else None)

    def test_edges(self):
        self.assertEqual(beat_win((1, ()), 1), 0)
        self.assertIsNone(beat_win((2, ()), 2))
        self.assertEqual(beat_win((6, tuple((1, other) for other in range(2, 7))), 1), 1)
        self.assertEqual(beat_win((6, tuple((person, person % 6 + 1) for person in range(1, 7))), 4), 5)


class BeatsTo(unittest.TestCase):
    def test_out_of_all_rows(self):
        for web in webs():
            known = least_beats(web)
            for goal in itertools.product(people_of(web), repeat=web[0]):
                self.assertEqual(beats_to(web, goal), known.get(goal))

    def test_all_at_once(self):
        both = (2, ((1, 2), (2, 1)))
        # A log cannot exchange signs, a beat can.
        self.assertEqual(beats_to(both, (2, 1)), 1)
        self.assertEqual(beats_to((4, tuple((person, person % 4 + 1) for person in range(1, 5))), (3, 4, 1, 2)), 2)
        self.assertEqual(beats_to((3, ((1, 2), (2, 3))), (1, 1, 1)), 2)
        self.assertEqual(beats_to((4, tuple(arcs_among(4))), (2, 1, 4, 3)), 1)

    def test_edges(self):
        for size in (1, 2, 3, 4):
            self.assertEqual(beats_to((size, ()), tuple(range(1, size + 1))), 0)
        self.assertIsNone(beats_to((2, ()), (1, 1)))
        self.assertIsNone(beats_to((4, ((1, 2), (2, 3), (3, 4))), (2, 2, 2, 2)))

    def test_limit(self):
        for size in (5, 6):
            error = error_of(beats_to, ((size, ()), tuple(range(1, size + 1))))
            self.assertIs(type(error), TooMany)
            self.assertEqual(error.most, 4)
            self.assertIsNone(beat_win((size, ()), 1))
