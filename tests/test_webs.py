"""Point 13: webs and logs."""

import itertools
import random
import unittest

from bellcopies.webs import left_over, needless_entries, trace, web_ring, web_said
from tests.kinds import ARCS
from tests.support import slow_says


def slow_ways(web, log):
    """For each person, the entries by which the sign has come, kept along the log."""
    size, arcs = web
    ways = {person: () for person in range(1, size + 1)}
    for at, index in enumerate(log):
        ways[arcs[index][1]] = ways[arcs[index][0]] + (at,)
    return ways


def cases():
    """All short logs of some small webs, and long logs of many webs."""
    small = (
        (2, ((1, 2),)), (2, ((2, 1), (1, 2))), (3, ((1, 2), (2, 3))), (3, ((3, 1), (1, 2), (2, 3))),
        (3, ((1, 3), (2, 3), (3, 2))), (4, ((4, 1), (1, 4), (2, 4))),
    )
    for web in small:
        for many in range(5):
            for log in itertools.product(range(len(web[1])), repeat=many):
                yield web, log
    chance = random.Random(13)
    for _ in range(200):
        size = chance.randint(2, 6)
        arcs = [arc for arc in ARCS if max(arc) <= size]
        arcs = tuple(chance.sample(arcs, chance.randint(1, min(12, len(arcs)))))
        yield (size, arcs), tuple(chance.randrange(len(arcs)) for _ in range(chance.randint(0, 60)))


EDGES = (
    ((1, ()), ()), ((6, ()), ()), ((6, ARCS[:12]), ()), ((6, ARCS[18:]), tuple(range(12)) * 5), ((2, ((2, 1),)), (0,) * 60),
)


class Webs(unittest.TestCase):
    def test_web_ring(self):
        for web, log in itertools.chain(cases(), EDGES):
            self.assertEqual(web_ring(web, log), slow_says(web, range(1, web[0] + 1), log))

    def test_web_said(self):
        for web, log in itertools.chain(cases(), EDGES):
            for signs in ((99, 0, 7, 7, 50, 1), (0, 0, 0, 0, 0, 0), (6, 5, 4, 3, 2, 1)):
                signs = signs[:web[0]]
                self.assertEqual(web_said(web, signs, log), slow_says(web, signs, log))

    def test_trace(self):
        for web, log in itertools.chain(cases(), EDGES):
            for person, way in slow_ways(web, log).items():
                self.assertEqual(trace(web, log, person), way)

    def test_left_over(self):
        for web, log in itertools.chain(cases(), EDGES):
            self.assertEqual(left_over(web, log), tuple(sorted(set(slow_says(web, range(1, web[0] + 1), log)))))

    def test_needless_entries(self):
        for web, log in itertools.chain(cases(), EDGES):
            people = range(1, web[0] + 1)
            row = slow_says(web, people, log)
            expected = [at for at in range(len(log)) if slow_says(web, people, log[:at] + log[at + 1:]) == row]
            self.assertEqual(needless_entries(web, log), tuple(expected))

    def test_empty_logs_and_one_person(self):
        self.assertEqual(web_ring((1, ()), ()), (1,))
        self.assertEqual(web_said((1, ()), (0,), ()), (0,))
        self.assertEqual(trace((1, ()), (), 1), ())
        self.assertEqual(left_over((6, ()), ()), (1, 2, 3, 4, 5, 6))
        self.assertEqual(needless_entries((6, ()), ()), ())

    def test_a_way_that_was_overwritten_does_not_count(self):
        web = (3, ((1, 2), (2, 3), (3, 2)))
        self.assertEqual(trace(web, (0, 1, 2, 2), 2), (0, 1, 3))
        self.assertEqual(trace(web, (1, 0, 1), 3), (1, 2))
        self.assertEqual(trace(web, (1, 0, 1), 1), ())
