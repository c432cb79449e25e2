"""Point 23: tables of times."""

import itertools
import random
import unittest

from bellcopies.errors import BadTimes
from bellcopies.times import earliest, latest_start, shows_timed_path, timed_path
from tests.support import arcs_among, error_of, people_of, small_webs, some_webs, strange_values


def with_times(webs, seed):
    """The webs with tables of times by chance: of all times, and of few."""
    chance = random.Random(seed)
    for web in webs:
        for most in (1, 5, 99):
            yield web, tuple(tuple(sorted((chance.randint(0, most), chance.randint(0, most)))) for _ in web[1])


def cases():
    return itertools.chain(
        *(with_times(small_webs(size), size) for size in (1, 2, 3)), with_times(some_webs(110, 60, (4, 5, 6)), 111),
    )


def day_by_day(web, times, person, start):
    """A dict from each person to the time at which the sign is there, by using at each time all that can be used."""
    found = {person: start}
    for now in range(start, 100):
        for _ in people_of(web):
            for (source, taker), (first, last) in zip(web[1], times):
                if source in found and taker not in found and first <= now <= last:
                    found[taker] = now
    return found


def slow_shows(web, times, person, goal, value, found):
    """Whether a tuple of pairs of integers is a way that arrives as early as can be."""
    if goal not in found:
        return False
    if person == goal:
        return value == ()
    at, clock = person, 0
    for index, now in value:
        if not (0 <= index < len(web[1]) and web[1][index][0] == at and clock <= now):
            return False
        if not times[index][0] <= now <= times[index][1]:
            return False
        at, clock = web[1][index][1], now
    return at == goal and clock == found[goal]


class Earliest(unittest.TestCase):
    def test_day_by_day(self):
        answers = set()
        for web, times in cases():
            for person in people_of(web):
                found = day_by_day(web, times, person, 0)
                answers |= set(found.values())
                expected = tuple(0 if other == person else found.get(other) for other in people_of(web))
                self.assertEqual(earliest(web, times, person), expected, (web, times, person))
        self.assertGreater(len(answers), 20)

    def test_edges(self):
        self.assertEqual(earliest((1, ()), (), 1), (0,))
        self.assertEqual(earliest((2, ()), (), 2), (None, 0))
        self.assertEqual(earliest((2, ((1, 2),)), ((99, 99),), 1), (0, 99))
        self.assertEqual(earliest((2, ((1, 2),)), ((0, 0),), 1), (0, 0))
        # At one time arcs may be used one after another, in any order.
        self.assertEqual(earliest((3, ((2, 3), (1, 2))), ((5, 5), (5, 5)), 1), (0, 5, 5))
        self.assertEqual(earliest((3, ((2, 3), (1, 2))), ((4, 4), (5, 5)), 1), (0, 5, None))
        # The sign waits where it is, and what comes later can come on first.
        self.assertEqual(earliest((3, ((1, 2), (2, 3), (1, 3))), ((2, 2), (9, 9), (3, 9)), 1), (0, 2, 3))
        path = (6, tuple((person, person + 1) for person in range(1, 6)))
        self.assertEqual(earliest(path, ((0, 0), (10, 20), (0, 99), (11, 12), (12, 12)), 1), (0, 0, 10, 10, 11, 12))


class LatestStart(unittest.TestCase):
    def test_day_by_day(self):
        for web, times in with_times(some_webs(113, 30, (1, 2, 3, 4)), 114):
            for person in people_of(web):
                good = [time for time in range(100) if len(day_by_day(web, times, person, time)) == web[0]]
                self.assertEqual(latest_start(web, times, person), max(good, default=None), (web, times, person))

    def test_not_a_day_later(self):
        answers = set()
        for web, times in cases():
            for person in people_of(web):
                start = latest_start(web, times, person)
                answers.add(start)
                if start is None:
                    self.assertLess(len(day_by_day(web, times, person, 0)), web[0])
                else:
                    self.assertEqual(len(day_by_day(web, times, person, start)), web[0])
                    self.assertTrue(start == 99 or len(day_by_day(web, times, person, start + 1)) < web[0])
        self.assertGreater(len(answers), 10)

    def test_edges(self):
        self.assertEqual(latest_start((1, ()), (), 1), 99)
        self.assertIsNone(latest_start((2, ()), (), 1))
        self.assertEqual(latest_start((2, ((1, 2),)), ((0, 0),), 1), 0)
        self.assertEqual(latest_start((2, ((1, 2),)), ((99, 99),), 1), 99)
        self.assertIsNone(latest_start((2, ((1, 2),)), ((99, 99),), 2))
        self.assertIsNone(latest_start((3, ((2, 3), (1, 2))), ((4, 4), (5, 5)), 1))
        self.assertEqual(latest_start((3, ((2, 3), (1, 2), (1, 3))), ((4, 4), (5, 5), (0, 3)), 1), 3)


class TimedPath(unittest.TestCase):
    def test_each_case(self):
        for web, times in cases():
            for person in people_of(web):
                found = day_by_day(web, times, person, 0)
                for goal in people_of(web):
                    value = timed_path(web, times, person, goal)
                    if goal in found:
                        self.assertTrue(slow_shows(web, times, person, goal, value, found), (web, times, value))
                    else:
                        self.assertIsNone(value)
                    self.assertIs(shows_timed_path(web, times, person, goal, value), True)
                    self.assertIs(shows_timed_path(web, times, person, goal, None), goal not in found)

    def test_edges(self):
        self.assertEqual(timed_path((1, ()), (), 1, 1), ())
        self.assertEqual(timed_path((6, ()), (), 6, 6), ())
        self.assertIsNone(timed_path((6, ()), (), 6, 5))
        self.assertEqual(timed_path((3, ((2, 3), (1, 2))), ((5, 7), (3, 5)), 1, 3)[-1], (0, 5))
        for now in (0, 99):
            self.assertEqual(timed_path((2, ((1, 2),)), ((now, now),), 1, 2), ((0, now),))
            self.assertIs(shows_timed_path((2, ((1, 2),)), ((now, now),), 1, 2, ((0, now),)), True)


class ShowsTimedPath(unittest.TestCase):
    def test_each_short_way(self):
        chance = random.Random(112)
        for web, times in cases():
            if web[0] == 3 and 0 < len(web[1]) < 4 and max(max(pair) for pair in times) < 6:
                person, goal = chance.choice(people_of(web)), chance.choice(people_of(web))
                found = day_by_day(web, times, person, 0)
                pairs = [(index, now) for index in range(len(web[1])) for now in chance.sample(range(7), 3)]
                pairs += [(index, found.get(goal, 0)) for index in range(len(web[1]))]
                for many in range(4):
                    for value in itertools.product(pairs, repeat=many):
                        expected = slow_shows(web, times, person, goal, value, found)
                        self.assertIs(shows_timed_path(web, times, person, goal, value), expected)

    def test_values_near_good_ones(self):
        for web, times in cases():
            for person, goal in arcs_among(web[0]):
                good = timed_path(web, times, person, goal)
                if good:
                    found = day_by_day(web, times, person, 0)
                    near = [good[1:], good[:-1], good + good[-1:], good[::-1], ()]
                    for at, (index, now) in enumerate(good):
                        for pair in ((index, now - 1), (index, now + 1), (index + 1, now), (index - 1, now)):
                            near.append(good[:at] + (pair,) + good[at + 1:])
                    for value in near:
                        expected = slow_shows(web, times, person, goal, value, found)
                        self.assertIs(shows_timed_path(web, times, person, goal, value), expected)

    def test_ways_around(self):
        web = (3, ((1, 2), (2, 1), (2, 3)))
        times = ((0, 9), (0, 9), (4, 9))
        self.assertIs(shows_timed_path(web, times, 1, 3, ((0, 0), (2, 4))), True)
        self.assertIs(shows_timed_path(web, times, 1, 3, ((0, 4), (2, 4))), True)
        # A sign can come back to where it was, and go on from there.
        self.assertIs(shows_timed_path(web, times, 1, 3, ((0, 0), (1, 1), (0, 2), (2, 4))), True)
        self.assertIs(shows_timed_path(web, times, 1, 3, ((0, 0), (2, 5))), False)
        self.assertIs(shows_timed_path(web, times, 1, 3, ((0, 5), (2, 4))), False)
        self.assertIs(shows_timed_path(web, times, 1, 3, ((0, 0), (2, 3))), False)
        # For the same person there is nothing to be done.
        self.assertIs(shows_timed_path(web, times, 1, 1, ()), True)
        self.assertIs(shows_timed_path(web, times, 1, 1, ((0, 0), (1, 0))), False)
        self.assertIs(shows_timed_path(web, times, 1, 1, None), False)

    def test_strange_values(self):
        web = (2, ((1, 2),))
        extra = (
            ((0, 3),), [(0, 3)], ([0, 3],), ((0, 3, 0),), ((0,),), ((False, 3),), ((0, True),), ((0, "3"),), (("0", 3),),
            ((0, None),), ((0, 3), None), ((1, 3),), ((-1, 3),), ((0, 2),), ((0, 4),), (((0, 3),),), ((0, 10 ** 40),),
            ((10 ** 40, 3),), {(0, 3): 1}, ((0, 3.0),), ((0, 3), (0, 3)), ((12, 3),),
        )
        for value in strange_values() + extra:
            with self.subTest(value=value):
                self.assertIs(shows_timed_path(web, ((3, 5),), 1, 2, value), repr(value) == "((0, 3),)")
                self.assertIs(shows_timed_path(web, ((3, 5),), 2, 1, value), value is None)
                self.assertIs(shows_timed_path(web, ((3, 5),), 2, 2, value), repr(value) == "()")


class Limits(unittest.TestCase):
    def test_first_bad_pair(self):
        web = (3, ((1, 2), (2, 3), (3, 1)))
        good = (0, 99)
        cases = (
            ((good, (1, 0), (1, 0)), 1), ((good, good, (0, 100)), 2), (((-1, 0), good, None), 0), ((good, good), None),
            ((good,) * 4, None), ((), None), (None, None), ([good] * 3, None), ((good, [0, 1], good), 1),
        )
        for table, index in cases:
            for function, rest in ((earliest, (1,)), (latest_start, (1,)), (timed_path, (1, 2))):
                error = error_of(function, (web, table) + rest)
                self.assertIs(type(error), BadTimes)
                self.assertEqual(error.index, index)
