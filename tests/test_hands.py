"""Point 26: two hands."""

import functools
import itertools
import unittest

from bellcopies.errors import TooMany
from bellcopies.hands import forced_win
from tests.support import arcs_among, error_of, people_of, slow_says, small_webs

FULL = (3, tuple(arcs_among(3)))


def slow_forced(web, person):
    """A function that tells whether the first hand can make sure of the win within so many turns."""

    @functools.lru_cache(maxsize=None)
    def forced(says, first, turns):
        if set(says) == {person}:
            return True
        if turns == 0:
            return False
        following = [says] + [slow_says(web, says, (index,)) for index in range(len(web[1]))]
        outcomes = [forced(new, not first, turns - 1) for new in following]
        return any(outcomes) if first else all(outcomes)

    return lambda turns: forced(people_of(web), True, turns)


class ForcedWin(unittest.TestCase):
    def test_all_games(self):
        found = set()
        for web in itertools.chain(*(small_webs(size) for size in (1, 2, 3))):
            for person in people_of(web):
                forced = slow_forced(web, person)
                least = next((turns for turns in range(61) if forced(turns)), None)
                found.add((web[0], least))
                for many in (0, 1, 2, 3, 4, 5, 6, 9, 59, 60):
                    expected = least if least is not None and least <= many else None
                    self.assertEqual(forced_win(web, person, many), expected, (web, person, many))
        self.assertTrue({(1, 0), (2, 1), (2, None), (3, 3), (3, None)} <= found)

    def test_turns_are_those_of_both_hands(self):
        web = (3, ((1, 2), (2, 3)))
        self.assertEqual([forced_win(web, 1, many) for many in range(5)], [None, None, None, 3, 3])
        self.assertEqual(forced_win(web, 1, 60), 3)

    def test_nobody_else(self):
        for many in (0, 1, 60):
            self.assertEqual(forced_win((1, ()), 1, many), 0)

    def test_no_turns(self):
        self.assertIsNone(forced_win((2, ((1, 2),)), 1, 0))
        self.assertIsNone(forced_win((3, ((1, 2), (2, 3))), 1, 0))
        self.assertEqual(forced_win((2, ((1, 2),)), 1, 1), 1)

    def test_first_hand_first(self):
        # The first hand is there before the other can let person 1 take over.
        self.assertEqual(forced_win((2, ((1, 2), (2, 1))), 1, 60), 1)
        self.assertEqual(forced_win((2, ((1, 2), (2, 1))), 2, 60), 1)

    def test_second_hand_hinders(self):
        # With an arc back from person 3, the second hand takes back what the first one has done.
        self.assertIsNone(forced_win((3, ((1, 2), (2, 3), (3, 2))), 1, 60))
        self.assertIsNone(forced_win(FULL, 1, 60))
        self.assertEqual(forced_win((3, ((1, 2), (2, 3), (2, 1))), 1, 60), 3)

    def test_second_hand_may_pass(self):
        # If it had to use an arc, it would have to help: behind 1>2 all arcs but 2>3 change nothing.
        self.assertEqual(forced_win((3, ((1, 2), (2, 3), (2, 1))), 1, 2), None)
        self.assertEqual(forced_win((3, ((1, 2), (1, 3))), 1, 2), None)
        self.assertEqual(forced_win((3, ((1, 2), (1, 3))), 1, 3), 3)

    def test_who_cannot_win(self):
        for many in (0, 60):
            self.assertIsNone(forced_win((2, ()), 1, many))
            self.assertIsNone(forced_win((3, ()), 2, many))
            self.assertIsNone(forced_win((3, ((1, 2), (2, 3))), 2, many))

    def test_people(self):
        for web in ((4, ()), (4, tuple(arcs_among(4))), (5, ()), (6, ((1, 2),))):
            for many in (0, 60):
                error = error_of(forced_win, (web, 1, many))
                self.assertIs(type(error), TooMany)
                self.assertEqual(error.most, 3)
