"""Point 31: people who keep all signs ever heard."""

import itertools
import random
import unittest

from bellcopies.errors import TooMany
from bellcopies.keeping import full_count, full_log, heard_sets
from tests.support import arcs_among, error_of, people_of, shortest_words, small_webs, some_webs

FULL = (4, tuple(arcs_among(4)))


def slow_heard(web, sets, log):
    """What each has heard behind a log, as a tuple of frozen sets."""
    heard = dict(enumerate(sets, 1))
    for index in log:
        source, taker = web[1][index]
        heard[taker] = heard[taker] | heard[source]
    return tuple(heard[person] for person in people_of(web))


def at_first(web):
    return tuple(frozenset([person]) for person in people_of(web))


def shortest_full(web):
    """The smallest of the shortest logs behind which all have heard all, None if there is none."""
    found = shortest_words(at_first(web), range(len(web[1])), lambda sets, index: slow_heard(web, sets, (index,)))
    everything = (frozenset(people_of(web)),) * web[0]
    return found[everything][1] if everything in found else None


class HeardSets(unittest.TestCase):
    def test_entry_by_entry(self):
        chance = random.Random(200)
        webs = itertools.chain(*(small_webs(size) for size in (1, 2, 3)), some_webs(201, 80, (4, 5, 6)), [FULL])
        for web in webs:
            for many in (0, 1, 2, 4, 9, 60):
                if web[1] or not many:
                    log = tuple(chance.randrange(len(web[1])) for _ in range(many))
                    expected = tuple(tuple(sorted(heard)) for heard in slow_heard(web, at_first(web), log))
                    self.assertEqual(heard_sets(web, log), expected, (web, log))

    def test_all_heard_so_far(self):
        web = (3, ((1, 2), (2, 3), (3, 1)))
        self.assertEqual(heard_sets(web, (0, 1)), ((1,), (1, 2), (1, 2, 3)))
        # What is heard later does not come to those who took over before.
        self.assertEqual(heard_sets(web, (1, 0)), ((1,), (1, 2), (2, 3)))
        self.assertEqual(heard_sets(web, (1, 0, 2)), ((1, 2, 3), (1, 2), (2, 3)))

    def test_edges(self):
        self.assertEqual(heard_sets((1, ()), ()), ((1,),))
        self.assertEqual(heard_sets((6, ()), ()), ((1,), (2,), (3,), (4,), (5,), (6,)))
        self.assertEqual(heard_sets((2, ((2, 1),)), (0,) * 60), ((1, 2), (2,)))
        circle = (6, tuple((person, person % 6 + 1) for person in range(1, 7)))
        self.assertEqual(heard_sets(circle, (0, 1, 2, 3, 4, 5) * 10), ((1, 2, 3, 4, 5, 6),) * 6)


class FullLog(unittest.TestCase):
    def test_shortest_and_smallest(self):
        lengths = set()
        webs = itertools.chain(*(small_webs(size) for size in (1, 2, 3)), some_webs(202, 50, (4,)), [FULL])
        for web in webs:
            expected = shortest_full(web)
            self.assertEqual(full_log(web), expected, web)
            self.assertEqual(full_count(web), None if expected is None else len(expected), web)
            lengths.add(full_count(web))
        self.assertTrue({None, 0, 2, 4, 6} <= lengths)

    def test_each_from_each_other(self):
        for size in (2, 3, 4):
            self.assertEqual(full_count((size, tuple(arcs_among(size)))), 2 * size - 2)
            self.assertEqual(len(full_log((size, tuple(arcs_among(size))))), 2 * size - 2)

    def test_all_in_a_circle(self):
        circle = (4, ((1, 2), (2, 3), (3, 4), (4, 1)))
        self.assertEqual(full_log(circle), (0, 1, 2, 3, 0, 1))
        self.assertEqual(full_count(circle), 6)

    def test_edges(self):
        self.assertEqual(full_log((1, ())), ())
        self.assertEqual(full_count((1, ())), 0)
        for web in ((2, ()), (4, ()), (2, ((1, 2),)), (3, ((1, 2), (2, 1))), (4, ((1, 2), (2, 3), (3, 4), (2, 1)))):
            self.assertIsNone(full_log(web))
            self.assertIsNone(full_count(web))

    def test_people(self):
        for web in ((5, ()), (6, ()), (5, tuple(arcs_among(5))[:12])):
            for function in (full_log, full_count):
                error = error_of(function, (web,))
                self.assertIs(type(error), TooMany)
                self.assertEqual(error.most, 4)
            self.assertIsNone(error_of(heard_sets, (web, ())))
