"""Point 16: cheapest logs and the papers that show it."""

import itertools
import random
import unittest

from bellcopies.cheapest import cheap_paper, cheap_win, shows_cheap_paper, shows_cheap_win
from tests.support import all_groups, arcs_among, least_price, least_prices, people_of, priced, slow_says, small_webs
from tests.support import some_webs, strange_values


def slow_shows_win(web, prices, person, value, best):
    price, log = value
    says = slow_says(web, people_of(web), log)
    return price == best and sum(prices[index] for index in log) == price and set(says) == {person}


def slow_shows_paper(web, prices, person, value, best):
    """Whether a tuple of pairs of a tuple of integers and an integer is such a paper."""
    allowed = [some for some in all_groups(web[0]) if some and person not in some]
    sets = [some for some, _ in value]
    if not all(some in allowed for some in sets) or len(set(sets)) < len(sets):
        return False
    if any(weight < 1 for _, weight in value) or sum(weight for _, weight in value) != best:
        return False
    for (source, taker), price in zip(web[1], prices):
        if sum(weight for some, weight in value if taker in some and source not in some) > price:
            return False
    return True


def cases():
    for size in (1, 2, 3):
        yield from priced(small_webs(size), size)
    yield from priced(some_webs(30, 60, (4, 5, 6)), 31)


class CheapWin(unittest.TestCase):
    def test_least_price_of_all_rows(self):
        for web, prices in itertools.chain(priced(small_webs(2), 32), priced(some_webs(33, 25, (3, 4)), 34)):
            found = least_prices(web, prices)
            for person in people_of(web):
                best = cheap_win(web, prices, person)
                self.assertEqual(best[0] if best else None, found.get((person,) * web[0]))
                self.assertEqual(best[0] if best else None, least_price(web, prices, person))

    def test_price_and_log(self):
        for web, prices in cases():
            for person in people_of(web):
                best = least_price(web, prices, person)
                value = cheap_win(web, prices, person)
                if best is None:
                    self.assertIsNone(value)
                else:
                    self.assertTrue(slow_shows_win(web, prices, person, value, best), (web, prices, person, value))
                self.assertIs(shows_cheap_win(web, prices, person, value), True)
                self.assertIs(shows_cheap_win(web, prices, person, None), best is None)

    def test_edges(self):
        self.assertEqual(cheap_win((1, ()), (), 1), (0, ()))
        self.assertIsNone(cheap_win((2, ()), (), 1))
        self.assertIsNone(cheap_win((2, ((1, 2),)), (0,), 2))
        self.assertEqual(cheap_win((2, ((1, 2),)), (0,), 1), (0, (0,)))
        path = (6, tuple((person, person + 1) for person in range(1, 6)))
        self.assertEqual(cheap_win(path, (1000,) * 5, 1), (5000, (0, 1, 2, 3, 4)))

    def test_what_is_nearest_is_not_always_cheapest(self):
        web = (3, ((1, 2), (1, 3), (2, 3)))
        self.assertEqual(cheap_win(web, (1, 3, 1), 1), (2, (0, 2)))
        web = (4, ((1, 2), (2, 3), (3, 2), (1, 3), (3, 4), (4, 2)))
        self.assertEqual(cheap_win(web, (9, 1, 1, 10, 2, 1), 1)[0], 9 + 1 + 2)


class ShowsCheapWin(unittest.TestCase):
    def test_each_short_log(self):
        for web, prices in priced(some_webs(35, 25, (2, 3)), 36):
            if len(web[1]) < 5:
                for person in people_of(web):
                    best = least_price(web, prices, person)
                    for many in range(5):
                        for log in itertools.product(range(len(web[1])), repeat=many):
                            cost = sum(prices[index] for index in log)
                            for price in (cost, cost + 1, best):
                                if price is not None:
                                    expected = slow_shows_win(web, prices, person, (price, log), best)
                                    found = shows_cheap_win(web, prices, person, (price, log))
                                    self.assertIs(found, expected)

    def test_length_of_logs(self):
        web = (2, ((1, 2),))
        self.assertIs(shows_cheap_win(web, (0,), 1, (0, (0,) * 60)), True)
        self.assertIs(shows_cheap_win(web, (0,), 1, (0, (0,) * 61)), False)
        self.assertIs(shows_cheap_win(web, (0,), 1, (0, ())), False)
        self.assertIs(shows_cheap_win((1, ()), (), 1, (0, ())), True)

    def test_strange_values(self):
        web = (2, ((1, 2),))
        extra = (
            (1, (0,)), [1, (0,)], (1, [0]), (True, (0,)), (1, (False,)), (1, (0,), 1), (1,), ("1", (0,)), (1, "0"),
            (1, (1,)), (1, (-1,)), (1, (None,)), (None, (0,)), (1, None), ((0,), 1), (2, (0, 0)), (0, (0,)), (1, {}),
        )
        for value in strange_values() + extra:
            with self.subTest(value=value):
                expected = repr(value) == "(1, (0,))"
                self.assertIs(shows_cheap_win(web, (1,), 1, value), expected)
                self.assertIs(shows_cheap_win(web, (1,), 2, value), value is None)


class CheapPaper(unittest.TestCase):
    def test_each_case(self):
        for web, prices in cases():
            for person in people_of(web):
                best = least_price(web, prices, person)
                value = cheap_paper(web, prices, person)
                if best is None:
                    self.assertIsNone(value)
                else:
                    self.assertTrue(slow_shows_paper(web, prices, person, value, best), (web, prices, person, value))
                self.assertIs(shows_cheap_paper(web, prices, person, value), True)
                self.assertIs(shows_cheap_paper(web, prices, person, None), best is None)

    def test_kinds_of_values(self):
        for web, prices in cases():
            for person in people_of(web):
                for pair in cheap_paper(web, prices, person) or ():
                    self.assertIs(type(pair), tuple)
                    self.assertEqual([type(part) for part in pair], [tuple, int])
                    self.assertEqual(list(pair[0]), sorted(pair[0]))

    def test_many_arcs(self):
        for web, prices in priced([(4, tuple(arcs_among(4)))] * 20 + list(some_webs(37, 40, (6,))), 38):
            for person in people_of(web):
                best = least_price(web, prices, person)
                if best is not None:
                    value = cheap_paper(web, prices, person)
                    self.assertTrue(slow_shows_paper(web, prices, person, value, best))

    def test_edges(self):
        self.assertEqual(cheap_paper((1, ()), (), 1), ())
        self.assertEqual(cheap_paper((2, ((1, 2),)), (0,), 1), ())
        self.assertEqual(cheap_paper((2, ((1, 2),)), (3,), 1), (((2,), 3),))
        self.assertIsNone(cheap_paper((2, ((1, 2),)), (3,), 2))
        self.assertIsNone(cheap_paper((2, ()), (), 1))


class ShowsCheapPaper(unittest.TestCase):
    def test_each_paper_of_small_weights(self):
        for web, prices in itertools.chain(priced(small_webs(2), 39), priced(some_webs(40, 12, (3,)), 41)):
            if max(prices, default=0) < 4:
                groups = all_groups(web[0]) + [(0,), (0, 2), (2, web[0] + 1), (3, 2), (2, 2)]
                pairs = [(some, weight) for some in groups for weight in (0, 1, 2)]
                for person in people_of(web):
                    best = least_price(web, prices, person)
                    for many in range(3):
                        for value in itertools.product(pairs, repeat=many):
                            expected = best is not None and slow_shows_paper(web, prices, person, value, best)
                            self.assertIs(shows_cheap_paper(web, prices, person, value), expected)

    def test_values_near_good_ones(self):
        chance = random.Random(42)
        for web, prices in priced(some_webs(43, 60, (3, 4, 5, 6)), 44):
            for person in people_of(web):
                good = cheap_paper(web, prices, person)
                if good:
                    best = least_price(web, prices, person)
                    at = chance.randrange(len(good))
                    some, weight = good[at]
                    near = [good[::-1], good[1:], good + good[:1]]
                    pairs = ((some, weight + 1), (some, weight - 1), (some[1:], weight), (some + (person,), weight))
                    for pair in pairs:
                        near.append(good[:at] + (pair,) + good[at + 1:])
                    near.append(good[:at] + ((some, weight - 1), (some, 1)) + good[at + 1:])
                    near.append(good[:at] + tuple((group, 1) for group in all_groups(web[0])) + good[at + 1:])
                    for group in all_groups(web[0]):
                        near.append(good[:at] + ((group, weight),) + good[at + 1:])
                    for value in near:
                        expected = slow_shows_paper(web, prices, person, value, best)
                        self.assertIs(shows_cheap_paper(web, prices, person, value), expected)

    def test_any_such_paper(self):
        web = (3, ((1, 2), (2, 3)))
        self.assertIs(shows_cheap_paper(web, (2, 1), 1, (((2,), 2), ((3,), 1))), True)
        self.assertIs(shows_cheap_paper(web, (2, 1), 1, (((3,), 1), ((2,), 1), ((2, 3), 1))), True)
        self.assertIs(shows_cheap_paper(web, (2, 1), 1, (((3,), 1), ((2,), 1), ((2,), 1))), False)
        self.assertIs(shows_cheap_paper(web, (2, 1), 1, (((3,), 1), ((3, 2), 2))), False)
        self.assertIs(shows_cheap_paper(web, (2, 1), 1, (((3,), 1), ((1, 2), 2))), False)
        self.assertIs(shows_cheap_paper(web, (2, 1), 1, (((3,), 2), ((2,), 1))), False)

    def test_strange_values(self):
        web = (2, ((1, 2),))
        extra = (
            (((2,), 1),), [((2,), 1)], ([(2,), 1],), (([2], 1),), (((2,), True),), (((2,), "1"),), (((2,), 1, 1),),
            (((2,),),), ((2, 1),), ((None, 1),), (((2,), None),), (((2.0,), 1),), (((True,), 1),), (((2,), 10 ** 40),),
            (((2,), -1),), (((2, 2), 1),), (((), 1),), (((1,), 1),), (((3,), 1),), (((2,), 1), None), {((2,), 1): 1},
        )
        for value in strange_values() + extra:
            with self.subTest(value=value):
                expected = repr(value) == "(((2,), 1),)"
                self.assertIs(shows_cheap_paper(web, (1,), 1, value), expected)
                self.assertIs(shows_cheap_paper(web, (1,), 2, value), value is None)
                self.assertIs(shows_cheap_paper(web, (0,), 1, value), value == () and type(value) is tuple)
