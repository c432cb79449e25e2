"""Point 30: what it costs to take out arcs, and streams."""

import itertools
import random
import unittest

from bellcopies.errors import BadPerson
from bellcopies.hindering import hinder
from bellcopies.streams import cheap_hinder, shows_cheap_hinder, shows_streams, streams
from tests.support import all_groups, arcs_among, can_come, error_of, people_of, priced, small_webs, some_webs
from tests.support import strange_values

FULL = (4, tuple(arcs_among(4)))
PATH = (6, tuple((person, person + 1) for person in range(1, 6)))


def cases():
    for size in (2, 3):
        yield from priced(small_webs(size), 180 + size)
    yield from priced(some_webs(184, 60, (4, 5, 6)), 185)
    yield from priced([FULL] * 3, 186)


def slow_least(web, prices, person, goal):
    """The least price of arcs that hinder, as that of all arcs out of the best group with the person alone."""
    sums = []
    for group in all_groups(web[0]):
        if person in group and goal not in group:
            sums.append(sum(
                price for (source, taker), price in zip(web[1], prices) if source in group and taker not in group
            ))
    return min(sums)


def slow_shows_hinder(web, prices, person, goal, value, least):
    """Whether a pair of an integer and a tuple of integers is a cheapest way to hinder."""
    price, arcs = value
    if list(arcs) != sorted(set(arcs)) or not all(0 <= index < len(web[1]) for index in arcs):
        return False
    return price == least == sum(prices[index] for index in arcs) and not can_come(web, arcs, person, goal)


def slow_shows_streams(web, prices, person, goal, value, least):
    """Whether a tuple of integers is such a stream."""
    if len(value) != len(prices) or not all(0 <= part <= price for part, price in zip(value, prices)):
        return False
    for other in people_of(web):
        comes = sum(part for part, arc in zip(value, web[1]) if arc[1] == other)
        goes = sum(part for part, arc in zip(value, web[1]) if arc[0] == other)
        if goes - comes != {person: least, goal: -least}.get(other, 0):
            return False
    return True


class CheapHinder(unittest.TestCase):
    def test_least_price_of_all_sets_of_arcs(self):
        for web, prices in itertools.chain(priced(small_webs(2), 187), priced(some_webs(188, 20, (3, 4)), 189)):
            if len(web[1]) < 8:
                sets = [
                    some for many in range(len(web[1]) + 1) for some in itertools.combinations(range(len(web[1])), many)
                ]
                for person, goal in arcs_among(web[0]):
                    least = min(
                        sum(prices[index] for index in some) for some in sets if not can_come(web, some, person, goal)
                    )
                    self.assertEqual(cheap_hinder(web, prices, person, goal)[0], least)
                    self.assertEqual(slow_least(web, prices, person, goal), least)

    def test_each_case(self):
        for web, prices in cases():
            for person, goal in arcs_among(web[0]):
                least = slow_least(web, prices, person, goal)
                value = cheap_hinder(web, prices, person, goal)
                self.assertEqual([type(part) for part in value], [int, tuple])
                self.assertTrue(slow_shows_hinder(web, prices, person, goal, value, least), (web, prices, value))
                self.assertIs(shows_cheap_hinder(web, prices, person, goal, value), True)

    def test_edges(self):
        self.assertEqual(cheap_hinder((2, ()), (), 1, 2), (0, ()))
        self.assertEqual(cheap_hinder((2, ((1, 2),)), (5,), 2, 1), (0, ()))
        # An arc of price 0 has to be taken out, too.
        self.assertEqual(cheap_hinder((2, ((1, 2),)), (0,), 1, 2), (0, (0,)))
        self.assertEqual(cheap_hinder((2, ((2, 1), (1, 2))), (7, 1000), 1, 2), (1000, (1,)))
        self.assertEqual(cheap_hinder(PATH, (1000, 9, 3, 9, 1000), 1, 6), (3, (2,)))
        self.assertEqual(cheap_hinder(PATH, (1000, 9, 3, 9, 1000), 6, 1), (0, ()))
        star = (6, tuple(pair for other in range(2, 6) for pair in ((1, other), (other, 6))))
        self.assertEqual(cheap_hinder(star, (1000,) * 8, 1, 6)[0], 4000)
        self.assertEqual(cheap_hinder(star, (1, 2, 4, 3, 5, 6, 8, 7), 1, 6), (1 + 3 + 5 + 7, (0, 3, 4, 7)))

    def test_few_arcs_are_not_always_cheap(self):
        web = (4, ((1, 2), (1, 3), (2, 4), (3, 4)))
        self.assertEqual(cheap_hinder((3, ((1, 2), (1, 3), (2, 3))), (1, 1, 1), 1, 3)[0], 2)
        self.assertEqual(cheap_hinder(web, (2, 9, 9, 1), 1, 4), (3, (0, 3)))
        funnel = (6, ((1, 2), (1, 3), (1, 4), (2, 5), (3, 5), (4, 5), (5, 6)))
        self.assertEqual(cheap_hinder(funnel, (1, 1, 1, 1, 1, 1, 9), 1, 6)[0], 3)
        self.assertEqual(cheap_hinder(funnel, (5, 5, 5, 5, 5, 5, 9), 1, 6), (9, (6,)))

    def test_price_of_one_for_each_arc(self):
        for web in some_webs(190, 60, (3, 4, 5, 6)):
            for person, goal in arcs_among(web[0]):
                price, _ = cheap_hinder(web, (1,) * len(web[1]), person, goal)
                self.assertEqual(price, len(hinder(web, person, goal)))


class ShowsCheapHinder(unittest.TestCase):
    def test_each_tuple_of_a_few_indexes(self):
        for web, prices in priced(some_webs(191, 25, (2, 3)), 192):
            if len(web[1]) < 5:
                rows = [
                    row for many in range(4) for row in itertools.product(range(-1, len(web[1]) + 1), repeat=many)
                ]
                for person, goal in arcs_among(web[0]):
                    least = slow_least(web, prices, person, goal)
                    for row in rows:
                        for price in (least, least + 1, least - 1):
                            expected = slow_shows_hinder(web, prices, person, goal, (price, row), least)
                            found = shows_cheap_hinder(web, prices, person, goal, (price, row))
                            self.assertIs(found, expected, (web, prices, person, goal, price, row))

    def test_any_such_arcs(self):
        web = (3, ((1, 2), (2, 3)))
        for arcs, expected in (((0,), True), ((1,), True), ((), False), ((0, 1), False), ((2,), False)):
            self.assertIs(shows_cheap_hinder(web, (4, 4), 1, 3, (4, arcs)), expected)
        # What costs nothing may be taken out as well.
        self.assertIs(shows_cheap_hinder(web, (4, 0), 1, 3, (0, (1,))), True)
        self.assertIs(shows_cheap_hinder(web, (0, 0), 1, 3, (0, (0, 1))), True)
        self.assertIs(shows_cheap_hinder(web, (0, 0), 1, 3, (0, (1, 0))), False)
        self.assertIs(shows_cheap_hinder(web, (0, 0), 1, 3, (0, ())), False)
        self.assertIs(shows_cheap_hinder(web, (0, 5), 2, 1, (0, (0,))), True)
        self.assertIs(shows_cheap_hinder(web, (0, 5), 2, 1, (0, ())), True)

    def test_strange_values(self):
        web = (2, ((1, 2),))
        extra = (
            (1, (0,)), [1, (0,)], (1, [0]), (True, (0,)), (1, (False,)), (1, (0,), 1), (1,), ("1", (0,)), (1, "0"),
            (1, (1,)), (1, (-1,)), (1, (None,)), (None, (0,)), (1, None), ((0,), 1), (0, (0,)), (2, (0,)), (1, {}),
            (1, ()), (1, (0, 0)), (1, (0, 1)), {1: (0,)}, (10 ** 40, (0,)), (-1, (0,)), ((1, (0,)),),
        )
        for value in strange_values() + extra:
            with self.subTest(value=value):
                self.assertIs(shows_cheap_hinder(web, (1,), 1, 2, value), repr(value) == "(1, (0,))")
                self.assertIs(shows_cheap_hinder((2, ()), (), 1, 2, value), False)
        self.assertIs(shows_cheap_hinder((2, ()), (), 1, 2, (0, ())), True)


class Streams(unittest.TestCase):
    def test_each_case(self):
        for web, prices in cases():
            for person, goal in arcs_among(web[0]):
                least = slow_least(web, prices, person, goal)
                value = streams(web, prices, person, goal)
                self.assertTrue(all(type(part) is int for part in value))
                self.assertTrue(slow_shows_streams(web, prices, person, goal, value, least), (web, prices, value))
                self.assertIs(shows_streams(web, prices, person, goal, value), True)

    def test_edges(self):
        self.assertEqual(streams((2, ()), (), 1, 2), ())
        self.assertEqual(streams((2, ((1, 2),)), (0,), 1, 2), (0,))
        self.assertEqual(streams((2, ((1, 2),)), (1000,), 1, 2), (1000,))
        self.assertEqual(streams((2, ((1, 2),)), (1000,), 2, 1), (0,))
        self.assertEqual(streams(PATH, (1000, 9, 3, 9, 1000), 1, 6), (3,) * 5)
        self.assertEqual(streams(PATH, (1000, 9, 3, 9, 1000), 3, 5), (0, 0, 3, 3, 0))

    def test_ways_that_have_to_give_way(self):
        # The shortest way, by 2 and 5, holds the others; the best stream does not use the arc from 2 to 5.
        web = (6, ((1, 2), (2, 5), (5, 6), (1, 3), (3, 5), (2, 4), (4, 6)))
        self.assertEqual(streams(web, (1,) * 7, 1, 6), (1, 0, 1, 1, 1, 1, 1))
        value = streams(web, (9, 9, 5, 7, 4, 6, 1000), 1, 6)
        self.assertEqual((value[2], value[5], value[6]), (5, 6, 6))

    def test_ways_that_have_to_give_way_wherever_their_arcs_stand(self):
        chance = random.Random(198)
        arcs = ((1, 2), (2, 5), (5, 6), (1, 3), (3, 5), (2, 4), (4, 6))
        for _ in range(300):
            web = (6, tuple(chance.sample(arcs, len(arcs))))
            for most in (1, 9, 1000):
                prices = tuple(chance.randint(min(most, 5), most) for _ in arcs)
                least = slow_least(web, prices, 1, 6)
                value = streams(web, prices, 1, 6)
                self.assertTrue(slow_shows_streams(web, prices, 1, 6, value, least), (web, prices, value))


class ShowsStreams(unittest.TestCase):
    def test_each_tuple_of_small_numbers(self):
        for web, prices in priced(some_webs(193, 40, (2, 3)), 194):
            if len(web[1]) < 5 and max(prices, default=0) < 4:
                rows = list(itertools.product(range(-1, 5), repeat=len(web[1])))
                for person, goal in arcs_among(web[0]):
                    least = slow_least(web, prices, person, goal)
                    for row in rows:
                        expected = slow_shows_streams(web, prices, person, goal, row, least)
                        self.assertIs(shows_streams(web, prices, person, goal, row), expected)

    def test_values_near_good_ones(self):
        chance = random.Random(195)
        for web, prices in priced(some_webs(196, 80, (3, 4, 5, 6)), 197):
            if web[1]:
                person, goal = chance.choice(arcs_among(web[0]))
                least = slow_least(web, prices, person, goal)
                good = streams(web, prices, person, goal)
                near = [good[::-1], good[1:], good + (0,), good + good[:1], prices, (0,) * len(prices)]
                for at, part in enumerate(good):
                    for new in (part + 1, part - 1, prices[at], prices[at] + 1, 0):
                        near.append(good[:at] + (new,) + good[at + 1:])
                for value in near:
                    expected = slow_shows_streams(web, prices, person, goal, value, least)
                    self.assertIs(shows_streams(web, prices, person, goal, value), expected)

    def test_streams_that_go_round(self):
        web = (4, ((1, 2), (2, 3), (3, 2), (3, 1), (4, 3)))
        self.assertIs(shows_streams(web, (2, 5, 5, 5, 5), 1, 2, (2, 0, 0, 0, 0)), True)
        self.assertIs(shows_streams(web, (2, 5, 5, 5, 5), 1, 2, (2, 4, 4, 0, 0)), True)
        self.assertIs(shows_streams(web, (2, 5, 5, 5, 5), 1, 2, (2, 4, 3, 0, 0)), False)
        self.assertIs(shows_streams(web, (2, 5, 5, 5, 5), 1, 2, (1, 0, 0, 0, 0)), False)
        # Nothing is left for the goal of what goes out and comes in again.
        self.assertIs(shows_streams(web, (2, 5, 5, 5, 5), 1, 2, (2, 1, 0, 1, 0)), False)
        # Of what comes to the person itself, as much more has to go out.
        self.assertIs(shows_streams(web, (2, 5, 5, 5, 5), 2, 1, (0, 5, 0, 5, 0)), True)
        self.assertIs(shows_streams(web, (2, 5, 5, 5, 5), 2, 1, (0, 5, 1, 4, 0)), False)
        self.assertIs(shows_streams(web, (2, 5, 5, 5, 5), 2, 3, (0, 5, 0, 0, 0)), True)

    def test_strange_values(self):
        web = (2, ((1, 2),))
        extra = ((1,), [1], (True,), ("1",), (1, 0), ((1,),), (0,), (2,), (-1,), (10 ** 40,), {1: 1}, (None,), ([1],))
        for value in strange_values() + extra:
            with self.subTest(value=value):
                self.assertIs(shows_streams(web, (1,), 1, 2, value), repr(value) == "(1,)")
                self.assertIs(shows_streams((2, ()), (), 1, 2, value), repr(value) == "()")


class Limits(unittest.TestCase):
    def test_unlike_people(self):
        functions = ((cheap_hinder, ()), (streams, ()), (shows_cheap_hinder, (None,)), (shows_streams, ((),)))
        for web, prices in cases():
            for person in people_of(web):
                for function, rest in functions:
                    self.assertIs(type(error_of(function, (web, prices, person, person) + rest)), BadPerson)
        for function, rest in functions:
            self.assertIs(type(error_of(function, ((1, ()), (), 1, 1) + rest)), BadPerson)
            self.assertIs(type(error_of(function, ((1, ()), (), 1, 2) + rest)), BadPerson)
