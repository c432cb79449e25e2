"""Point 32: starts that tell goals apart."""

import itertools
import random
import unittest

from bellcopies.errors import BadStarts, TooMany
from bellcopies.twins import goal_twins, shows_goal_twins, tells_goals
from tests.support import arcs_among, error_of, people_of, shortest_logs, small_webs, some_webs, strange_values

FULL = (4, tuple(arcs_among(4)))


def with_starts(webs, seed):
    """The webs with starts by chance: none, few and many, with few kinds of signs and with many."""
    chance = random.Random(seed)
    for web in webs:
        for many, most in ((0, 0), (1, 1), (1, 99), (2, 1), (2, 2), (6, 1), (6, 99)):
            yield web, tuple(tuple(chance.randint(0, most) for _ in people_of(web)) for _ in range(many))


def cases():
    for size in (1, 2, 3):
        yield from with_starts(small_webs(size), 210 + size)
    yield from with_starts(some_webs(214, 25, (4,)), 215)
    yield from with_starts([FULL], 216)


def made(starts, goal):
    """The signs said in the end, for each start."""
    return [[signs[person - 1] for person in goal] for signs in starts]


def all_twins(web, starts):
    """All pairs of unlike goals that logs reach and that make the same of all starts."""
    by_rows = {}
    for goal in shortest_logs(web, people_of(web)):
        by_rows.setdefault(repr(made(starts, goal)), []).append(goal)
    return {pair for goals in by_rows.values() for pair in itertools.permutations(goals, 2)}


class GoalTwins(unittest.TestCase):
    def test_each_case(self):
        told = set()
        for web, starts in cases():
            twins = all_twins(web, starts)
            value = goal_twins(web, starts)
            self.assertIs(tells_goals(web, starts), not twins, (web, starts))
            if twins:
                self.assertIn(value, twins)
                self.assertEqual([type(part) for part in value + value[0] + value[1]], [tuple] * 2 + [int] * 2 * web[0])
            else:
                self.assertIsNone(value)
            self.assertIs(shows_goal_twins(web, starts, value), True)
            self.assertIs(shows_goal_twins(web, starts, None), not twins)
            told.add((len(starts), not twins))
        self.assertTrue({(0, True), (0, False), (1, True), (1, False), (6, True), (6, False)} <= told)

    def test_only_goals_that_logs_reach(self):
        # Person 3 is never changed, so that it does not matter what the others would make of it.
        web = (3, ((1, 2),))
        self.assertIs(tells_goals(web, ((4, 7, 4),)), True)
        self.assertIs(tells_goals(web, ((4, 7, 7),)), True)
        self.assertIs(tells_goals(web, ((4, 4, 7),)), False)
        self.assertEqual(sorted(goal_twins(web, ((4, 4, 7),))), [(1, 1, 3), (1, 2, 3)])

    def test_several_starts(self):
        web = (3, tuple(arcs_among(3)))
        self.assertIs(tells_goals(web, ((0, 0, 1),)), False)
        self.assertIs(tells_goals(web, ((0, 1, 1),)), False)
        self.assertIs(tells_goals(web, ((0, 0, 1), (0, 1, 1))), True)
        self.assertIs(tells_goals(web, ((0, 0, 1),) * 6), False)
        self.assertIs(tells_goals(web, ((0, 50, 99),)), True)

    def test_no_starts(self):
        self.assertIs(tells_goals((1, ()), ()), True)
        self.assertIs(tells_goals((4, ()), ()), True)
        self.assertIs(tells_goals((2, ((1, 2),)), ()), False)
        self.assertEqual(sorted(goal_twins((2, ((1, 2),)), ())), [(1, 1), (1, 2)])
        self.assertIsNone(goal_twins((4, ()), ()))

    def test_one_person(self):
        for starts in ((), ((0,),), ((0,),) * 6, ((99,), (0,))):
            self.assertIs(tells_goals((1, ()), starts), True)
            self.assertIsNone(goal_twins((1, ()), starts))


class ShowsGoalTwins(unittest.TestCase):
    def test_each_pair_of_rows(self):
        chance = random.Random(217)
        for web, starts in with_starts(itertools.chain(small_webs(1), small_webs(2), some_webs(218, 12, (3,))), 219):
            twins = all_twins(web, starts)
            for many in (web[0] - 1, web[0], web[0] + 1):
                rows = list(itertools.product(range(web[0] + 2), repeat=many))
                for one in chance.sample(rows, min(len(rows), 6)) + [pair[0] for pair in sorted(twins)[:4]]:
                    for other in rows:
                        expected = (one, other) in twins
                        self.assertIs(shows_goal_twins(web, starts, (one, other)), expected, (web, starts, one, other))

    def test_rows_of_four(self):
        chance = random.Random(220)
        rows = list(itertools.product(range(1, 5), repeat=4))
        for web, starts in with_starts(some_webs(221, 12, (4,)), 222):
            twins = all_twins(web, starts)
            for pair in chance.sample(sorted(twins), min(len(twins), 20)):
                self.assertIs(shows_goal_twins(web, starts, pair), True)
            for _ in range(20):
                pair = (chance.choice(rows), chance.choice(rows))
                self.assertIs(shows_goal_twins(web, starts, pair), pair in twins)

    def test_strange_values(self):
        web, starts = (2, ((1, 2),)), ((4, 4),)
        extra = (
            ((1, 1), (1, 2)), [(1, 1), (1, 2)], ([1, 1], (1, 2)), ((1, 1), [1, 2]), ((1, 1), (1, 1)), ((1, 1),),
            ((1, 1), (1, 2), (1, 2)), ((1, 1), (2, 2)), ((1, 1), (2, 1)), ((True, 1), (1, 2)), ((1, 1), (True, 2)),
            ((1, 1), ("1", 2)), ((1, 1), None), (None, (1, 2)), ((1, 1), ()), ((1, 1), (1, 3)), ((1, 1), (1,)),
            ((1, 1), (1, 2, 1)), (((1, 1), (1, 2)),), {(1, 1): (1, 2)}, ((1, 1), {}), ((1, 1), (1, [2])), (1, 2),
        )
        for value in strange_values() + extra:
            with self.subTest(value=value):
                self.assertIs(shows_goal_twins(web, starts, value), repr(value) == "((1, 1), (1, 2))")
                self.assertIs(shows_goal_twins(web, ((4, 7),), value), value is None)
        self.assertIs(shows_goal_twins(web, starts, ((1, 2), (1, 1))), True)


class Limits(unittest.TestCase):
    def test_people(self):
        for web in ((5, ()), (6, ((1, 2),)), (5, tuple(arcs_among(5))[:12])):
            for starts in ((), ((0,) * web[0],), ((99,) * web[0],) * 6):
                for function, rest in ((tells_goals, ()), (goal_twins, ()), (shows_goal_twins, (None,))):
                    error = error_of(function, (web, starts) + rest)
                    self.assertIs(type(error), TooMany)
                    self.assertEqual(error.most, 4)

    def test_number_of_starts(self):
        for web in ((1, ()), FULL, (6, ())):
            row = tuple(range(web[0]))
            for function, rest in ((tells_goals, ()), (goal_twins, ()), (shows_goal_twins, (None,))):
                self.assertIs(type(error_of(function, (web, (row,) * 7) + rest)), BadStarts)
                self.assertIs(type(error_of(function, (web, (row + (1,),)) + rest)), BadStarts)
