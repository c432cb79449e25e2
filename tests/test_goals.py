"""Point 14: goals of webs."""

import itertools
import unittest

from bellcopies.errors import BadGoal, TooMany
from bellcopies.goals import log_count, log_to, reached_count
from tests.support import arcs_among, error_of, people_of, shortest_logs, slow_says, small_webs, some_webs


def all_goals(size):
    return itertools.product(range(1, size + 1), repeat=size)


def logs_of(web, many):
    return itertools.product(range(len(web[1])), repeat=many)


class LogTo(unittest.TestCase):
    def test_out_of_all_short_logs(self):
        for size in (1, 2, 3):
            for web in small_webs(size):
                if len(web[1]) < 5:
                    found = {}
                    # Each goal of 3 people that is reached at all with so few arcs is so by 6 entries.
                    for many in range(7):
                        for log in logs_of(web, many):
                            found.setdefault(slow_says(web, people_of(web), log), log)
                    for goal in all_goals(size):
                        self.assertEqual(log_to(web, goal), found.get(goal), (web, goal))

    def test_four_people(self):
        for web in some_webs(14, 25, (4,)):
            known = shortest_logs(web, people_of(web))
            for goal in all_goals(4):
                expected = known[goal][1] if goal in known else None
                self.assertEqual(log_to(web, goal), expected, (web, goal))

    def test_the_smallest_of_several_shortest_logs(self):
        self.assertEqual(log_to((3, ((3, 1), (2, 3), (2, 1))), (2, 2, 2)), (1, 0))
        self.assertEqual(log_to((4, ((3, 4), (1, 2))), (1, 1, 3, 3)), (0, 1))
        self.assertEqual(log_to((3, ((2, 3), (1, 3), (1, 2))), (1, 1, 1)), (1, 2))

    def test_nothing_to_do(self):
        for size in (1, 2, 3, 4):
            for arcs in ((), tuple(arcs_among(size))):
                self.assertEqual(log_to((size, arcs), tuple(range(1, size + 1))), ())

    def test_what_cannot_be_reached(self):
        for size in (2, 3, 4):
            web = (size, tuple(arcs_among(size)))
            # All say unlike signs only where nobody has taken over.
            for goal in itertools.permutations(range(1, size + 1)):
                self.assertEqual(log_to(web, goal), () if goal == people_of(web) else None)
            self.assertIsNone(log_to((size, ()), (1,) * size))

    def test_longest(self):
        web = (4, ((4, 3), (1, 4), (3, 4), (3, 2), (2, 1)))
        log = log_to(web, max(shortest_logs(web, people_of(web)).items(), key=lambda pair: pair[1][0])[0])
        self.assertGreater(len(log), 9)


class ReachedCount(unittest.TestCase):
    def test_small_webs(self):
        for size in (1, 2, 3):
            for web in small_webs(size):
                self.assertEqual(reached_count(web), len(shortest_logs(web, people_of(web))))

    def test_four_people(self):
        for web in some_webs(15, 40, (4,)):
            self.assertEqual(reached_count(web), len(shortest_logs(web, people_of(web))))

    def test_edges(self):
        for size in (1, 2, 3, 4):
            self.assertEqual(reached_count((size, ())), 1)
        # All goals but those, besides the first row, that say all signs.
        self.assertEqual(reached_count((2, tuple(arcs_among(2)))), 4 - 1)
        self.assertEqual(reached_count((3, tuple(arcs_among(3)))), 27 - 5)
        self.assertEqual(reached_count((4, tuple(arcs_among(4)))), 256 - 23)


class LogCount(unittest.TestCase):
    def test_out_of_all_logs(self):
        webs = list(some_webs(16, 20, (1, 2, 3))) + list(some_webs(17, 6, (4,)))
        for web in webs:
            for many in range(5):
                if len(web[1]) ** many < 1000:
                    counts = {}
                    for log in logs_of(web, many):
                        row = slow_says(web, people_of(web), log)
                        counts[row] = counts.get(row, 0) + 1
                    for goal in all_goals(web[0]):
                        self.assertEqual(log_count(web, goal, many), counts.get(goal, 0))

    def test_many_entries(self):
        both = (2, ((1, 2), (2, 1)))
        for many in (1, 2, 59, 60, 61, 100):
            # The first entry tells which sign is left.
            self.assertEqual(log_count(both, (1, 1), many), 2 ** (many - 1))
            self.assertEqual(log_count(both, (2, 2), many), 2 ** (many - 1))
            self.assertEqual(log_count(both, (1, 2), many), 0)
            self.assertEqual(log_count((2, ((2, 1),)), (2, 2), many), 1)
        for web in ((3, tuple(arcs_among(3))), (4, ((1, 2), (2, 3), (3, 4), (4, 1)))):
            goals = shortest_logs(web, people_of(web))
            self.assertEqual(sum(log_count(web, goal, 100) for goal in goals), len(web[1]) ** 100)

    def test_the_way_of_two_entries(self):
        web = (3, ((1, 2), (2, 3)))
        for many in range(2, 101):
            # All say 1 as soon as the second arc comes behind the first: not in 1 .. 1 0 .. 0.
            self.assertEqual(log_count(web, (1, 1, 1), many), 2 ** many - many - 1)

    def test_no_entries(self):
        for web in some_webs(18, 20, (1, 2, 3, 4)):
            for goal in all_goals(web[0]):
                self.assertEqual(log_count(web, goal, 0), 1 if goal == people_of(web) else 0)

    def test_no_arcs(self):
        for many in (1, 2, 100):
            self.assertEqual(log_count((2, ()), (1, 2), many), 0)
            self.assertEqual(log_count((1, ()), (1,), many), 0)


class Limits(unittest.TestCase):
    def test_people(self):
        for size in (5, 6):
            web = (size, ((1, 2),))
            goal = people_of(web)
            for function, arguments in ((log_to, (web, goal)), (reached_count, (web,)), (log_count, (web, goal, 3))):
                error = error_of(function, arguments)
                self.assertIs(type(error), TooMany)
                self.assertEqual(error.most, 4)

    def test_goals_of_other_lengths(self):
        for web in ((1, ()), (2, ()), (4, ((1, 2),)), (6, ())):
            for length in range(8):
                if length != web[0]:
                    self.assertIs(type(error_of(log_to, (web, (1,) * length))), BadGoal)
                    self.assertIs(type(error_of(log_count, (web, (1,) * length, 0))), BadGoal)
