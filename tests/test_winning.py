"""Point 15: who can win, springs and closed sets."""

import itertools
import unittest

from bellcopies.winning import closed_count, least_left, parted, shows_parted, springs, win_log, winners
from tests.support import all_groups, arcs_among, people_of, shortest_logs, slow_says, small_webs, some_webs, strange_values

CIRCLE = (6, tuple((person, person % 6 + 1) for person in range(1, 7)))
TWO_CIRCLES = (6, ((1, 3), (3, 5), (5, 1), (2, 4), (4, 6), (6, 2)))


def is_closed(web, some):
    """Whether nobody of these people has an arc from somebody else."""
    return all(source in some for source, taker in web[1] if taker in some)


def slow_springs(web):
    closed = [some for some in all_groups(web[0]) if some and is_closed(web, some)]
    return tuple(some for some in closed if not any(set(other) < set(some) for other in closed))


def slow_reach(web, person):
    """The people that a person's sign can come to, by as many rounds as there are people."""
    found = {person}
    for _ in range(web[0]):
        found |= {taker for source, taker in web[1] if source in found}
    return found


def slow_winners(web):
    return tuple(person for person in people_of(web) if len(slow_reach(web, person)) == web[0])


def webs():
    for size in (1, 2, 3):
        yield from small_webs(size)
    yield from some_webs(20, 150, (4, 5, 6))
    yield from (CIRCLE, TWO_CIRCLES, (6, ()), (6, ((1, 2), (2, 3), (3, 4), (4, 5), (5, 6))))


class Winners(unittest.TestCase):
    def test_out_of_all_rows(self):
        for web in itertools.chain(*(small_webs(size) for size in (1, 2, 3)), some_webs(21, 40, (4,))):
            known = shortest_logs(web, people_of(web))
            expected = tuple(person for person in people_of(web) if (person,) * web[0] in known)
            self.assertEqual(winners(web), expected)
            for person in people_of(web):
                log = known[(person,) * web[0]][1] if person in expected else None
                self.assertEqual(win_log(web, person), log, (web, person))

    def test_more_people(self):
        for web in webs():
            self.assertEqual(winners(web), slow_winners(web))

    def test_edges(self):
        self.assertEqual(winners((1, ())), (1,))
        self.assertEqual(winners((2, ())), ())
        self.assertEqual(winners(CIRCLE), (1, 2, 3, 4, 5, 6))
        self.assertEqual(winners(TWO_CIRCLES), ())


class WinLog(unittest.TestCase):
    def test_more_people(self):
        for web in some_webs(22, 60, (5, 6)):
            for person in people_of(web):
                log = win_log(web, person)
                if person not in slow_winners(web):
                    self.assertIsNone(log)
                else:
                    self.assertEqual(len(log), web[0] - 1)
                    self.assertEqual(slow_says(web, people_of(web), log), (person,) * web[0])

    def test_smallest_of_five_people(self):
        for web in some_webs(23, 25, (5,)):
            if len(web[1]) < 9:
                for person in winners(web):
                    logs = itertools.product(range(len(web[1])), repeat=4)
                    best = next(log for log in logs if slow_says(web, people_of(web), log) == (person,) * 5)
                    self.assertEqual(win_log(web, person), best)

    def test_edges(self):
        self.assertEqual(win_log((1, ()), 1), ())
        self.assertIsNone(win_log((2, ()), 1))
        self.assertIsNone(win_log((2, ((1, 2),)), 2))
        self.assertEqual(win_log(CIRCLE, 3), (2, 3, 4, 5, 0))
        self.assertEqual(win_log((3, ((2, 3), (1, 3), (1, 2))), 1), (1, 2))


class Springs(unittest.TestCase):
    def test_out_of_all_groups(self):
        for web in webs():
            self.assertEqual(springs(web), slow_springs(web), web)

    def test_edges(self):
        self.assertEqual(springs((1, ())), ((1,),))
        self.assertEqual(springs((6, ())), ((1,), (2,), (3,), (4,), (5,), (6,)))
        self.assertEqual(springs(CIRCLE), ((1, 2, 3, 4, 5, 6),))
        self.assertEqual(springs(TWO_CIRCLES), ((1, 3, 5), (2, 4, 6)))
        self.assertEqual(springs((4, ((4, 1), (2, 3), (3, 2)))), ((2, 3), (4,)))


class LeastLeft(unittest.TestCase):
    def test_out_of_all_rows(self):
        for web in itertools.chain(*(small_webs(size) for size in (1, 2, 3)), some_webs(24, 40, (4,))):
            rows = shortest_logs(web, people_of(web))
            self.assertEqual(least_left(web), min(len(set(row)) for row in rows))

    def test_is_the_number_of_springs(self):
        for web in webs():
            self.assertEqual(least_left(web), len(slow_springs(web)))
        self.assertEqual(least_left((6, ())), 6)
        self.assertEqual(least_left((1, ())), 1)


class ClosedCount(unittest.TestCase):
    def test_out_of_all_groups(self):
        for web in webs():
            self.assertEqual(closed_count(web), sum(1 for some in all_groups(web[0]) if is_closed(web, some)))

    def test_edges(self):
        self.assertEqual(closed_count((1, ())), 2)
        self.assertEqual(closed_count((6, ())), 64)
        self.assertEqual(closed_count(CIRCLE), 2)
        self.assertEqual(closed_count(TWO_CIRCLES), 4)
        self.assertEqual(closed_count((6, tuple((1, other) for other in range(2, 7)))), 33)


def slow_shows(web, value):
    """Whether a pair of tuples of integers is such a pair."""
    one, other = value
    groups = all_groups(web[0])[1:]
    return one in groups and other in groups and is_closed(web, one) and is_closed(web, other) and not set(one) & set(other)


class Parted(unittest.TestCase):
    def test_each_web(self):
        for web in webs():
            value = parted(web)
            if slow_winners(web):
                self.assertIsNone(value)
            else:
                self.assertTrue(slow_shows(web, value), (web, value))
            self.assertIs(shows_parted(web, value), True)
            self.assertIs(shows_parted(web, None), bool(slow_winners(web)))

    def test_each_pair_of_groups(self):
        for web in itertools.chain(*(small_webs(size) for size in (1, 2, 3)), some_webs(25, 20, (4,))):
            groups = all_groups(web[0]) + [(2, 1), (1, 1), (0,), (web[0] + 1,), (1, 3, 2)]
            for value in itertools.product(groups, repeat=2):
                self.assertIs(shows_parted(web, value), slow_shows(web, value), (web, value))

    def test_any_such_pair(self):
        web = (4, ((1, 2), (3, 4)))
        for value in itertools.product(((1,), (1, 2)), ((3,), (3, 4))):
            self.assertIs(shows_parted(web, value), True)
            self.assertIs(shows_parted(web, value[::-1]), True)
        for value in (((1,), (4,)), ((1,), (1, 3)), ((), (3,)), ((1,), ()), ((1,), (3,), (1,)), ((1,),), [(1,), (3,)]):
            self.assertIs(shows_parted(web, value), False)

    def test_strange_values(self):
        for value in strange_values() + (((True,), (2,)), ((1,), (2, None)), ([1], [2]), ((1,), (2.0,)), (None, None)):
            with self.subTest(value=value):
                self.assertIs(shows_parted((2, ()), value), False)
                self.assertIs(shows_parted((2, ((1, 2),)), value), value is None)
                self.assertIs(shows_parted((1, ()), value), value is None)
        self.assertIs(shows_parted((2, ()), ((1,), (2,))), True)

    def test_all_arcs(self):
        self.assertIsNone(parted((4, tuple(arcs_among(4)))))
