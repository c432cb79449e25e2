"""Point 29: closed groups, how signs spread, and the cheapest agreement."""

import itertools
import random
import unittest

from bellcopies.groups import cheap_agreement, closed_sets, closure, inside, shows_agreement, spreads
from bellcopies.winning import closed_count
from tests.support import all_groups, arcs_among, least_price, least_prices, people_of, priced, slow_says, small_webs
from tests.support import some_webs, strange_values

FULL = (4, tuple(arcs_among(4)))


def webs():
    for size in (1, 2, 3):
        yield from small_webs(size)
    yield from some_webs(160, 60, (4, 5, 6))
    yield FULL
    yield 6, ()


def slow_closed(web):
    """All groups into which no arc leads from outside."""
    return [
        group for group in all_groups(web[0])
        if all(source in group or taker not in group for source, taker in web[1])
    ]


def best_agreement(web, prices):
    """The least price of an agreement and the least person whose sign it can be, None if there is none."""
    pairs = [(least_price(web, prices, person), person) for person in people_of(web)]
    return min((pair for pair in pairs if pair[0] is not None), default=None)


def slow_shows(web, prices, value, best):
    """Whether a triple of two integers and a tuple of indexes is such a triple."""
    price, person, log = value
    if best != (price, person) or len(log) > 60 or not all(0 <= index < len(web[1]) for index in log):
        return False
    return sum(prices[index] for index in log) == price and set(slow_says(web, people_of(web), log)) == {person}


def cases():
    for size in (1, 2, 3):
        yield from priced(small_webs(size), 161 + size)
    yield from priced(some_webs(165, 60, (4, 5, 6)), 166)
    yield from priced([FULL] * 3, 167)


class ClosedSets(unittest.TestCase):
    def test_each_web(self):
        for web in webs():
            value = closed_sets(web)
            self.assertEqual(value, tuple(slow_closed(web)))
            self.assertEqual(len(value), closed_count(web))
            self.assertEqual(value[0], ())
            self.assertIn(people_of(web), value)

    def test_edges(self):
        self.assertEqual(closed_sets((1, ())), ((), (1,)))
        self.assertEqual(closed_sets((2, ())), ((), (1,), (1, 2), (2,)))
        self.assertEqual(closed_sets(FULL), ((), (1, 2, 3, 4)))
        self.assertEqual(closed_sets((3, ((3, 1),))), ((), (1, 2, 3), (1, 3), (2,), (2, 3), (3,)))
        self.assertEqual(len(closed_sets((6, ()))), 64)


class Closure(unittest.TestCase):
    def test_each_group(self):
        for web in webs():
            closed = slow_closed(web)
            for some in all_groups(web[0]):
                around = [group for group in closed if set(some) <= set(group)]
                value = closure(web, some)
                self.assertIn(value, around)
                self.assertTrue(all(set(value) <= set(group) for group in around), (web, some, value))

    def test_edges(self):
        path = (6, tuple((person, person + 1) for person in range(1, 6)))
        for web in ((1, ()), (6, ()), FULL, path):
            self.assertEqual(closure(web, ()), ())
            self.assertEqual(closure(web, people_of(web)), people_of(web))
        self.assertEqual(closure(path, (6,)), (1, 2, 3, 4, 5, 6))
        self.assertEqual(closure(path, (1, 3)), (1, 2, 3))
        self.assertEqual(closure((6, ()), (2, 5)), (2, 5))


class Inside(unittest.TestCase):
    def test_each_group(self):
        for web in webs():
            closed = slow_closed(web)
            for some in all_groups(web[0]):
                within = [group for group in closed if set(group) <= set(some)]
                value = inside(web, some)
                self.assertIn(value, within)
                self.assertTrue(all(set(group) <= set(value) for group in within), (web, some, value))

    def test_edges(self):
        path = (6, tuple((person, person + 1) for person in range(1, 6)))
        for web in ((1, ()), (6, ()), FULL, path):
            self.assertEqual(inside(web, ()), ())
            self.assertEqual(inside(web, people_of(web)), people_of(web))
        self.assertEqual(inside(path, (2, 3, 4, 5, 6)), ())
        self.assertEqual(inside(path, (1, 2, 4, 5)), (1, 2))
        self.assertEqual(inside((6, ()), (2, 5)), (2, 5))


class Spreads(unittest.TestCase):
    def test_entry_by_entry(self):
        chance = random.Random(168)
        for web in webs():
            for many in (0, 1, 5, 60):
                if web[1] or not many:
                    log = tuple(chance.randrange(len(web[1])) for _ in range(many))
                    rows = [slow_says(web, people_of(web), log[:at]) for at in range(many + 1)]
                    expected = tuple(tuple(row.count(person) for person in people_of(web)) for row in rows)
                    self.assertEqual(spreads(web, log), expected)

    def test_edges(self):
        self.assertEqual(spreads((1, ()), ()), ((1,),))
        self.assertEqual(spreads((6, ()), ()), ((1,) * 6,))
        self.assertEqual(spreads((2, ((2, 1),)), (0,) * 60), ((1, 1),) + ((0, 2),) * 60)
        self.assertEqual(spreads((3, ((1, 2), (2, 3))), (1, 0)), ((1, 1, 1), (1, 2, 0), (2, 1, 0)))


class CheapAgreement(unittest.TestCase):
    def test_least_price_of_all_rows(self):
        for web, prices in itertools.chain(priced(small_webs(2), 169), priced(some_webs(170, 25, (3, 4)), 171)):
            found = least_prices(web, prices)
            pairs = [(price, row[0]) for row, price in found.items() if len(set(row)) == 1]
            value = cheap_agreement(web, prices)
            self.assertEqual(value[:2] if value else None, min(pairs, default=None), (web, prices))

    def test_each_case(self):
        people = set()
        for web, prices in cases():
            best = best_agreement(web, prices)
            value = cheap_agreement(web, prices)
            if best is None:
                self.assertIsNone(value)
            else:
                self.assertTrue(slow_shows(web, prices, value, best), (web, prices, value))
                self.assertEqual([type(part) for part in value], [int, int, tuple])
                people.add(value[1])
            self.assertIs(shows_agreement(web, prices, value), True)
            self.assertIs(shows_agreement(web, prices, None), best is None)
        self.assertGreater(len(people), 4)

    def test_edges(self):
        self.assertEqual(cheap_agreement((1, ()), ()), (0, 1, ()))
        self.assertIsNone(cheap_agreement((2, ()), ()))
        self.assertIsNone(cheap_agreement((3, ((1, 2), (3, 2))), (0, 1000)))
        both = (2, ((1, 2), (2, 1)))
        # The least person for the same price, and another person for a lower one.
        self.assertEqual(cheap_agreement(both, (7, 7)), (7, 1, (0,)))
        self.assertEqual(cheap_agreement(both, (7, 6)), (6, 2, (1,)))
        self.assertEqual(cheap_agreement(both, (0, 0)), (0, 1, (0,)))
        path = (6, tuple((person + 1, person) for person in range(1, 6)))
        self.assertEqual(cheap_agreement(path, (1000,) * 5), (5000, 6, (4, 3, 2, 1, 0)))


class ShowsAgreement(unittest.TestCase):
    def test_each_short_log(self):
        for web, prices in priced(some_webs(172, 25, (2, 3)), 173):
            if len(web[1]) < 5:
                best = best_agreement(web, prices)
                for many in range(5):
                    for log in itertools.product(range(len(web[1])), repeat=many):
                        cost = sum(prices[index] for index in log)
                        for price in (cost, cost + 1):
                            for person in range(web[0] + 2):
                                expected = slow_shows(web, prices, (price, person, log), best)
                                self.assertIs(shows_agreement(web, prices, (price, person, log)), expected)

    def test_only_the_least_person(self):
        both = (2, ((1, 2), (2, 1)))
        self.assertIs(shows_agreement(both, (7, 7), (7, 1, (0,))), True)
        self.assertIs(shows_agreement(both, (7, 7), (7, 2, (1,))), False)
        self.assertIs(shows_agreement(both, (7, 6), (6, 2, (1,))), True)
        self.assertIs(shows_agreement(both, (7, 6), (7, 1, (0,))), False)

    def test_length_of_logs(self):
        web = (2, ((1, 2),))
        self.assertIs(shows_agreement(web, (0,), (0, 1, (0,) * 60)), True)
        self.assertIs(shows_agreement(web, (0,), (0, 1, (0,) * 61)), False)
        self.assertIs(shows_agreement(web, (0,), (0, 1, ())), False)
        self.assertIs(shows_agreement((1, ()), (), (0, 1, ())), True)

    def test_strange_values(self):
        web = (2, ((1, 2),))
        extra = (
            (1, 1, (0,)), [1, 1, (0,)], (1, 1, [0]), (True, 1, (0,)), (1, True, (0,)), (1, 1, (False,)), (1, 1),
            (1, (0,)), (1, 1, (0,), 1), ("1", 1, (0,)), (1, "1", (0,)), (1, 1, "0"), (1, 1, (1,)), (1, 1, (-1,)),
            (1, 1, (None,)), (None, 1, (0,)), (1, None, (0,)), (1, 1, None), ((0,), 1, 1), (2, 1, (0, 0)), (1, 2, (0,)),
            (0, 1, (0,)), (1, 1, {}), (1, 1, ()), (1, 10 ** 40, (0,)), (10 ** 40, 1, (0,)), (1, [1], (0,)),
        )
        for value in strange_values() + extra:
            with self.subTest(value=value):
                self.assertIs(shows_agreement(web, (1,), value), repr(value) == "(1, 1, (0,))")
                self.assertIs(shows_agreement((2, ()), (), value), value is None)
