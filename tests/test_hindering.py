"""Point 24: arcs that hinder, and ways apart."""

import itertools
import random
import unittest

from bellcopies.errors import BadPerson
from bellcopies.hindering import hinder, shows_hinder, shows_ways_apart, ways_apart
from tests.support import arcs_among, can_come, error_of, people_of, small_webs, some_webs, strange_values


def slow_fewest(web, person, goal):
    """The least number of arcs that hinder, out of all sets of arcs."""
    for many in itertools.count():
        for some in itertools.combinations(range(len(web[1])), many):
            if not can_come(web, some, person, goal):
                return many


def slow_shows_hinder(web, person, goal, value, fewest):
    """Whether a tuple of integers is as few arcs that hinder as can be."""
    plain = list(value) == sorted(set(value)) and all(0 <= index < len(web[1]) for index in value)
    return plain and len(value) == fewest and not can_come(web, value, person, goal)


def slow_shows_ways(web, person, goal, value, fewest):
    """Whether a tuple of tuples of integers is as many ways apart as can be."""
    indexes = sum(value, ())
    if len(value) != fewest or len(set(indexes)) != len(indexes):
        return False
    for way in value:
        if not way or not all(0 <= index < len(web[1]) for index in way):
            return False
        people = [person] + [web[1][index][1] for index in way]
        if [web[1][index][0] for index in way] != people[:-1] or people[-1] != goal:
            return False
    return True


def webs():
    for size in (2, 3):
        yield from small_webs(size)
    yield from some_webs(120, 60, (4, 5, 6))
    yield 4, tuple(arcs_among(4))


class Hinder(unittest.TestCase):
    def test_each_case(self):
        counts = set()
        for web in webs():
            for person, goal in arcs_among(web[0]):
                fewest = slow_fewest(web, person, goal)
                counts.add(fewest)
                value = hinder(web, person, goal)
                self.assertTrue(slow_shows_hinder(web, person, goal, value, fewest), (web, person, goal, value))
                self.assertIs(shows_hinder(web, person, goal, value), True)
        self.assertTrue({0, 1, 2, 3} <= counts)

    def test_edges(self):
        self.assertEqual(hinder((2, ()), 1, 2), ())
        self.assertEqual(hinder((2, ((1, 2),)), 2, 1), ())
        self.assertEqual(hinder((2, ((2, 1), (1, 2))), 1, 2), (1,))
        self.assertEqual(hinder((6, ((1, 2), (1, 3), (2, 4), (3, 4), (4, 5), (5, 6), (4, 6))), 1, 5), (4,))
        star = (6, tuple(pair for other in range(2, 6) for pair in ((1, other), (other, 6))))
        self.assertEqual(len(hinder(star, 1, 6)), 4)


class WaysApart(unittest.TestCase):
    def test_each_case(self):
        for web in webs():
            for person, goal in arcs_among(web[0]):
                fewest = slow_fewest(web, person, goal)
                value = ways_apart(web, person, goal)
                self.assertTrue(slow_shows_ways(web, person, goal, value, fewest), (web, person, goal, value))
                self.assertIs(shows_ways_apart(web, person, goal, value), True)

    def test_edges(self):
        self.assertEqual(ways_apart((2, ()), 1, 2), ())
        self.assertEqual(ways_apart((2, ((1, 2),)), 2, 1), ())
        star = (6, tuple(pair for other in range(2, 6) for pair in ((1, other), (other, 6))))
        self.assertEqual(sorted(ways_apart(star, 1, 6)), [(0, 1), (2, 3), (4, 5), (6, 7)])

    def test_a_first_way_that_has_to_be_given_up(self):
        # The shortest way over 2>3 would leave no other one.
        web = (6, ((1, 2), (2, 3), (3, 6), (1, 4), (4, 3), (2, 5), (5, 6)))
        self.assertEqual(sorted(ways_apart(web, 1, 6)), [(0, 5, 6), (3, 4, 2)])
        self.assertEqual(len(hinder(web, 1, 6)), 2)


class ShowsHinder(unittest.TestCase):
    def test_each_set_of_arcs(self):
        for web in itertools.chain(small_webs(2), small_webs(3), some_webs(121, 10, (4,))):
            if len(web[1]) < 8:
                for person, goal in arcs_among(web[0]):
                    fewest = slow_fewest(web, person, goal)
                    for many in range(len(web[1]) + 1):
                        for value in itertools.combinations(range(len(web[1])), many):
                            expected = slow_shows_hinder(web, person, goal, value, fewest)
                            self.assertIs(shows_hinder(web, person, goal, value), expected)

    def test_other_rows(self):
        web = (4, ((1, 2), (1, 3), (2, 4), (3, 4)))
        for value in itertools.product(range(-1, 6), repeat=2):
            self.assertIs(shows_hinder(web, 1, 4, value), slow_shows_hinder(web, 1, 4, value, 2))

    def test_strange_values(self):
        for value in strange_values() + ((0,), [0], (False,), ("0",), (0, 0), (0, 1), (1,), (0.0,), {0: 1}, None):
            with self.subTest(value=value):
                self.assertIs(shows_hinder((2, ((1, 2),)), 1, 2, value), repr(value) == "(0,)")
                self.assertIs(shows_hinder((2, ((1, 2),)), 2, 1, value), repr(value) == "()")


class ShowsWaysApart(unittest.TestCase):
    def test_each_tuple_of_short_ways(self):
        for web in itertools.chain(small_webs(2), some_webs(122, 25, (3,))):
            if len(web[1]) < 5:
                rows = [row for many in range(4) for row in itertools.product(range(len(web[1]) + 1), repeat=many)]
                for person, goal in arcs_among(web[0]):
                    fewest = slow_fewest(web, person, goal)
                    good = ways_apart(web, person, goal)
                    for row in rows:
                        for value in ((row,), good + (row,), good[1:] + (row,), (row,) + good[:-1]):
                            expected = slow_shows_ways(web, person, goal, value, fewest)
                            self.assertIs(shows_ways_apart(web, person, goal, value), expected, (web, value))

    def test_values_near_good_ones(self):
        chance = random.Random(123)
        for web in webs():
            for person, goal in chance.sample(arcs_among(web[0]), 2):
                fewest = slow_fewest(web, person, goal)
                good = ways_apart(web, person, goal)
                near = [good[::-1], good[1:], good + good[:1], good + ((),), good[1:] + ((),)]
                for at, way in enumerate(good):
                    for new in (way[::-1], way[1:], way + way[-1:], way[:-1], tuple(index + 1 for index in way)):
                        near.append(good[:at] + (new,) + good[at + 1:])
                for value in near:
                    expected = slow_shows_ways(web, person, goal, value, fewest)
                    self.assertIs(shows_ways_apart(web, person, goal, value), expected)

    def test_ways_around(self):
        web = (3, ((1, 2), (2, 3), (3, 2), (2, 1)))
        # A way may come through a person twice, but not over an arc twice.
        self.assertIs(shows_ways_apart(web, 1, 2, ((0, 1, 2),)), True)
        self.assertIs(shows_ways_apart(web, 1, 3, ((0, 3, 0, 1),)), False)
        self.assertIs(shows_ways_apart(web, 1, 3, ((0, 1, 2, 1),)), False)
        self.assertIs(shows_ways_apart(web, 1, 3, ((0, 1),)), True)

    def test_strange_values(self):
        extra = (
            ((0,),), [(0,)], ([0],), ((False,),), (("0",),), ((0, 0),), ((0,), (0,)), ((1,),), ((-1,),), ((None,),),
            ((0,), None), ((0,), ()), ((),), {(0,): 1}, (((0,),),), ((0.0,),),
        )
        for value in strange_values() + extra:
            with self.subTest(value=value):
                self.assertIs(shows_ways_apart((2, ((1, 2),)), 1, 2, value), repr(value) == "((0,),)")
                self.assertIs(shows_ways_apart((2, ((1, 2),)), 2, 1, value), repr(value) == "()")


class Limits(unittest.TestCase):
    def test_unlike_people(self):
        functions = ((hinder, ()), (ways_apart, ()), (shows_hinder, ((),)), (shows_ways_apart, ((),)))
        for web in webs():
            for person in people_of(web):
                for function, rest in functions:
                    self.assertIs(type(error_of(function, (web, person, person) + rest)), BadPerson)
        self.assertIs(type(error_of(hinder, ((1, ()), 1, 1))), BadPerson)
        self.assertIs(type(error_of(ways_apart, ((1, ()), 1, 2))), BadPerson)
