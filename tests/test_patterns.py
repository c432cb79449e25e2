"""Point 20: rows of signs that logs make of others."""

import itertools
import random
import unittest

from bellcopies.errors import BadHearings, BadSigns, TooMany
from bellcopies.patterns import pattern_log, patterns, web_fitting
from tests.support import arcs_among, error_of, people_of, shortest_logs, slow_says, small_webs, some_webs


def cases():
    """Webs with signs, some of them alike."""
    chance = random.Random(80)
    for web in itertools.chain(*(small_webs(size) for size in (1, 2, 3)), some_webs(81, 15, (4,))):
        for most in (0, 1, 99):
            yield web, tuple(chance.randint(0, most) for _ in people_of(web))


def said_of(signs, goal):
    return tuple(signs[person - 1] for person in goal)


class WebFitting(unittest.TestCase):
    def test_out_of_all_goals(self):
        chance = random.Random(82)
        counts = []
        for web, signs in cases():
            if web[0] > 1:
                reached = sorted(shortest_logs(web, people_of(web)))
                goals = [chance.choice(reached), chance.choice(reached), tuple(chance.choices(people_of(web), k=web[0]))]
                signs_too = tuple(chance.randint(0, 1) for _ in people_of(web))
                for many in range(1, 4):
                    hearings = tuple(
                        (row, said_of(row, goal)) for row, goal in zip((signs, signs_too, signs), goals[:many])
                    )
                    expected = [
                        goal for goal in reached if all(said_of(before, goal) == behind for before, behind in hearings)
                    ]
                    counts.append(len(expected))
                    self.assertEqual(web_fitting(web, hearings), tuple(expected))
        self.assertTrue({0, 1, 2, 3, 4} <= set(counts))

    def test_edges(self):
        both = (2, ((1, 2), (2, 1)))
        self.assertEqual(web_fitting(both, (((0, 0), (0, 0)),) * 6), ((1, 1), (1, 2), (2, 2)))
        self.assertEqual(web_fitting(both, (((0, 1), (1, 0)),)), ())
        self.assertEqual(web_fitting(both, (((0, 1), (1, 1)),)), ((2, 2),))
        self.assertEqual(web_fitting((2, ()), (((0, 1), (0, 1)),)), ((1, 2),))
        self.assertEqual(web_fitting((2, ()), (((0, 1), (0, 0)),)), ())
        self.assertEqual(web_fitting((2, ()), (((0, 0), (0, 0)), ((0, 1), (0, 2)))), ())
        self.assertEqual(len(web_fitting((4, tuple(arcs_among(4))), (((3,) * 4, (3,) * 4),))), 256 - 23)

    def test_another_number_of_signs(self):
        for web in ((2, ()), (3, ((1, 2),)), (4, ()), (5, ()), (6, ((1, 2),))):
            for length in range(2, 9):
                if length != web[0]:
                    error = error_of(web_fitting, (web, (((1,) * length,) * 2,)))
                    self.assertIs(type(error), BadHearings)
                    self.assertIsNone(error.index)

    def test_one_person(self):
        # Signs of hearings are those of two people or more.
        error = error_of(web_fitting, ((1, ()), (((1,), (1,)),)))
        self.assertIs(type(error), BadHearings)
        self.assertEqual(error.index, 0)
        error = error_of(web_fitting, ((1, ()), (((1, 2), (1, 2)),)))
        self.assertIs(type(error), BadHearings)
        self.assertIsNone(error.index)


class Patterns(unittest.TestCase):
    def test_out_of_all_logs(self):
        for web, signs in cases():
            self.assertEqual(patterns(web, signs), tuple(sorted(shortest_logs(web, signs))))

    def test_are_what_goals_make(self):
        for web, signs in cases():
            expected = {said_of(signs, goal) for goal in shortest_logs(web, people_of(web))}
            self.assertEqual(patterns(web, signs), tuple(sorted(expected)))

    def test_edges(self):
        self.assertEqual(patterns((1, ()), (0,)), ((0,),))
        self.assertEqual(patterns((4, ()), (99, 0, 7, 7)), ((99, 0, 7, 7),))
        self.assertEqual(patterns((4, tuple(arcs_among(4))), (9,) * 4), ((9,) * 4,))
        self.assertEqual(patterns((2, ((1, 2), (2, 1))), (9, 0)), ((0, 0), (9, 0), (9, 9)))


class PatternLog(unittest.TestCase):
    def test_each_row_of_signs(self):
        for web, signs in cases():
            known = shortest_logs(web, signs)
            for goal in itertools.product(sorted(set(signs)), repeat=web[0]):
                expected = known[goal][1] if goal in known else None
                self.assertEqual(pattern_log(web, signs, goal), expected)

    def test_out_of_all_short_logs(self):
        for web, signs in cases():
            if web[0] == 3 and len(web[1]) < 4:
                found = {}
                for many in range(7):
                    for log in itertools.product(range(len(web[1])), repeat=many):
                        found.setdefault(slow_says(web, signs, log), log)
                for goal in itertools.product(sorted(set(signs)), repeat=3):
                    self.assertEqual(pattern_log(web, signs, goal), found.get(goal))

    def test_edges(self):
        web = (3, ((2, 3), (1, 3), (1, 2)))
        self.assertEqual(pattern_log(web, (5, 6, 7), (5, 6, 7)), ())
        self.assertEqual(pattern_log(web, (5, 5, 7), (5, 5, 5)), (0,))
        self.assertEqual(pattern_log(web, (5, 6, 7), (5, 5, 5)), (1, 2))
        self.assertIsNone(pattern_log(web, (5, 6, 7), (5, 6, 99)))
        self.assertIsNone(pattern_log(web, (5, 6, 7), (6, 6, 6)))
        self.assertEqual(pattern_log((1, ()), (0,), (0,)), ())
        self.assertIsNone(pattern_log((1, ()), (0,), (1,)))


class Limits(unittest.TestCase):
    def test_people(self):
        for size in (5, 6):
            signs = (1,) * size
            for function, arguments in (
                (web_fitting, ((size, ()), ((signs, signs),))), (patterns, ((size, ()), signs)),
                (pattern_log, ((size, ()), signs, signs)),
            ):
                error = error_of(function, arguments)
                self.assertIs(type(error), TooMany)
                self.assertEqual(error.most, 4)

    def test_numbers_of_signs(self):
        for size in range(1, 7):
            for length in range(9):
                if length != size:
                    self.assertIs(type(error_of(patterns, ((size, ()), (1,) * length))), BadSigns)
                    arguments = ((size, ()), (1,) * size, (1,) * length)
                    self.assertIs(type(error_of(pattern_log, arguments)), BadSigns)
