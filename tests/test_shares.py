"""Point 35: shares that chances tell."""

import itertools
import random
import unittest
from fractions import Fraction

from bellcopies.drift import win_chances
from bellcopies.errors import BadChances
from bellcopies.shares import evenest, shares_for, shares_paper, shows_evenest, shows_shares, shows_shares_paper
from tests.support import arcs_among, as_ratio, error_of, fractions_of, people_of, small_webs, some_odds, some_webs
from tests.support import strange_values

HALF = (1, 2)
PAIR = (2, ((1, 2), (2, 1)))
FULL = (4, tuple(arcs_among(4)))
CIRCLE = (6, tuple((person, person % 6 + 1) for person in range(1, 7)))
PATH = (6, tuple((person, person + 1) for person in range(1, 6)))


def sure(size, person):
    """The chances of which this person has all."""
    return tuple((int(other == person), 1) for other in range(1, size + 1))


def with_chances(webs, seed):
    """The webs with chances by chance: of all people, of some, and of one alone."""
    chance = random.Random(seed)
    for web in webs:
        size = web[0]
        yield web, some_odds(chance.randint(0, 10 ** 9), size)
        some = sorted(chance.sample(people_of(web), chance.randint(1, size)))
        odds = some_odds(chance.randint(0, 10 ** 9), len(some))
        yield web, tuple(odds[some.index(person)] if person in some else (0, 1) for person in people_of(web))
        yield web, sure(size, chance.randint(1, size))
        yield web, ((1, size),) * size


def cases():
    for size in (1, 2, 3):
        yield from with_chances(small_webs(size), 260 + size)
    yield from with_chances(some_webs(264, 40, (4, 5, 6)), 265)
    yield from with_chances([FULL, CIRCLE, PATH], 266)


def most_of(limits, gains):
    """The greatest sum of gains times numbers from 0 on within limits, each (factors, most, not below 0).

    By going from one corner to a better one, each time to the first that can be.
    """
    rows = [
        [Fraction(part) for part in factors] + [Fraction(int(at == other)) for other in range(len(limits))]
        + [Fraction(most)] for at, (factors, most) in enumerate(limits)
    ]
    goal = [Fraction(gain) for gain in gains] + [Fraction(0)] * (len(limits) + 1)
    base = [len(gains) + at for at in range(len(limits))]
    while True:
        column = next((at for at, part in enumerate(goal[:-1]) if part > 0), None)
        if column is None:
            return -goal[-1]
        steps = [(row[-1] / row[column], base[at], at) for at, row in enumerate(rows) if row[column] > 0]
        at = min(steps)[2]
        rows[at] = [part / rows[at][column] for part in rows[at]]
        for other in range(len(rows)):
            if other != at and rows[other][column]:
                rows[other] = [part - rows[other][column] * lead for part, lead in zip(rows[other], rows[at])]
        goal = [part - goal[column] * lead for part, lead in zip(goal, rows[at])]
        base[at] = column


def balance(web, chances, person):
    """The factors of the shares in what comes to a person less what goes from there."""
    parts = fractions_of(chances)
    return [
        parts[taker - 1] * (int(taker == person) - int(source == person)) for source, taker in web[1]
    ]


def slow_most(web, chances):
    """The least ratio that some shares need not exceed, None if there are no shares.

    Divided by it the shares are at most 1, and their sum is as great as can be.
    """
    limits = []
    for person in people_of(web):
        factors = balance(web, chances, person)
        limits += [(factors, 0), ([-part for part in factors], 0)]
    for at in range(len(web[1])):
        limits.append(([int(at == other) for other in range(len(web[1]))], 1))
    whole = most_of(limits, [1] * len(web[1]))
    return as_ratio(1 / whole) if whole else None


def is_ratio(value):
    return value[1] > 0 and as_ratio(Fraction(*value)) == value


def slow_shares(web, chances, value):
    """Whether a tuple of pairs of integers is shares."""
    if len(value) != len(web[1]) or not all(is_ratio(part) and part[0] >= 0 for part in value):
        return False
    parts, given = fractions_of(value), fractions_of(chances)
    if sum(parts) != 1:
        return False
    for person in people_of(web):
        comes = given[person - 1] * sum(part for part, arc in zip(parts, web[1]) if arc[1] == person)
        goes = sum(part * given[arc[1] - 1] for part, arc in zip(parts, web[1]) if arc[0] == person)
        if comes != goes:
            return False
    return True


def slow_paper(web, chances, value):
    """Whether a tuple of pairs of integers shows that there are no shares."""
    if len(value) != web[0] or not all(is_ratio(part) for part in value):
        return False
    heights, given = fractions_of(value), fractions_of(chances)
    return all(given[taker - 1] * (heights[taker - 1] - heights[source - 1]) >= 1 for source, taker in web[1])


def slow_evenest(web, chances, value, most):
    """Whether a pair of a pair and a tuple of pairs is the least ratio with its shares."""
    if value[0] != most or not slow_shares(web, chances, value[1]):
        return False
    return all(part <= Fraction(*most) for part in fractions_of(value[1]))


class SharesFor(unittest.TestCase):
    def test_each_case(self):
        kinds = set()
        for web, chances in cases():
            most = slow_most(web, chances)
            value = shares_for(web, chances)
            if most is None:
                self.assertIsNone(value, (web, chances))
            else:
                self.assertTrue(slow_shares(web, chances, value), (web, chances, value))
            self.assertIs(shows_shares(web, chances, value), True)
            self.assertIs(shows_shares(web, chances, None), most is None)
            kinds.add((most is None, (0, 1) in chances))
        self.assertEqual(len(kinds), 4)

    def test_odds_that_win_with_these_chances_are_shares(self):
        several = 0
        for seed, web in enumerate(itertools.chain(small_webs(2), small_webs(3), some_webs(267, 500, (4, 5, 6)))):
            odds = some_odds(seed, len(web[1]))
            chances = win_chances(web, odds)
            if chances is not None and web[1] and all(bottom <= 60 for _, bottom in chances):
                self.assertIs(shows_shares(web, chances, odds), True)
                self.assertIsNotNone(shares_for(web, chances))
                several += (0, 1) not in chances
        self.assertGreater(several, 30)

    def test_edges(self):
        # Without arcs there is no sum of 1.
        for size in (1, 2, 6):
            self.assertIsNone(shares_for((size, ()), sure(size, size)))
        self.assertEqual(shares_for((2, ((1, 2),)), ((1, 1), (0, 1))), ((1, 1),))
        self.assertIsNone(shares_for((2, ((1, 2),)), ((0, 1), (1, 1))))
        self.assertIsNone(shares_for((2, ((1, 2),)), (HALF, HALF)))
        self.assertEqual(shares_for(PAIR, ((1, 60), (59, 60))), ((1, 60), (59, 60)))
        self.assertEqual(shares_for(CIRCLE, ((1, 6),) * 6), ((1, 6),) * 6)
        self.assertIsNone(shares_for(PATH, ((1, 6),) * 6))

    def test_chances_of_none(self):
        # What leads to somebody without a chance may have all.
        self.assertTrue(slow_shares(PATH, sure(6, 1), shares_for(PATH, sure(6, 1))))
        self.assertIsNone(shares_for((3, ((1, 2), (2, 3))), ((1, 2), (1, 4), (1, 4))))
        value = shares_for((3, ((1, 2), (2, 3))), (HALF, HALF, (0, 1)))
        self.assertEqual(value, ((0, 1), (1, 1)))


class ShowsShares(unittest.TestCase):
    def test_each_tuple_of_small_ratios(self):
        ratios = [(top, bottom) for bottom in (1, 2, 3, 4) for top in (-1, 0, 1, 2, 3)]
        chance = random.Random(268)
        for web, chances in with_chances(itertools.chain(small_webs(2), small_webs(3)), 269):
            rows = list(itertools.product(ratios, repeat=min(len(web[1]), 3)))
            for row in rows if len(rows) < 500 else chance.sample(rows, 500):
                self.assertIs(shows_shares(web, chances, row), slow_shares(web, chances, row), (web, chances, row))

    def test_values_near_good_ones(self):
        chance = random.Random(270)
        for web, chances in cases():
            good = shares_for(web, chances)
            if good is not None:
                near = [good, good[::-1], good[1:], good + ((0, 1),), good[1:] + good[:1]]
                for at, part in enumerate(good):
                    for new in ((0, 1), (1, 1), as_ratio(Fraction(*part) / 2), (2 * part[0], 2 * part[1])):
                        near.append(good[:at] + (new,) + good[at + 1:])
                for _ in range(3):
                    one, other = chance.randrange(len(good)), chance.randrange(len(good))
                    parts = fractions_of(good)
                    some = parts[one] * Fraction(chance.randint(1, 4), 3)
                    parts[one] -= some
                    parts[other] += some
                    near.append(tuple(as_ratio(part) for part in parts))
                for value in near:
                    self.assertIs(shows_shares(web, chances, value), slow_shares(web, chances, value), (web, value))

    def test_any_such_shares(self):
        web = (3, ((1, 2), (2, 1), (2, 3), (3, 2)))
        chances = ((1, 3),) * 3
        self.assertIs(shows_shares(web, chances, (HALF, HALF, (0, 1), (0, 1))), True)
        self.assertIs(shows_shares(web, chances, ((0, 1), (0, 1), HALF, HALF)), True)
        self.assertIs(shows_shares(web, chances, ((1, 4),) * 4), True)
        self.assertIs(shows_shares(web, chances, ((1, 8), (1, 8), (3, 8), (3, 8))), True)
        self.assertIs(shows_shares(web, chances, ((1, 8), (3, 8), (1, 8), (3, 8))), False)
        self.assertIs(shows_shares(web, chances, ((2, 8), (2, 8), (2, 8), (2, 8))), False)
        self.assertIs(shows_shares(web, chances, ((2, 1), (2, 1), (-3, 2), (-3, 2))), False)
        # The bottoms of shares have no bound.
        small, rest = Fraction(1, 10 ** 40), Fraction(1, 2) - Fraction(1, 10 ** 40)
        value = tuple(as_ratio(part) for part in (small, small, rest, rest))
        self.assertIs(shows_shares(web, chances, value), True)
        self.assertIs(shows_shares(web, chances, value[:3] + value[:1]), False)

    def test_strange_values(self):
        extra = (
            (HALF, HALF), [HALF, HALF], ([1, 2], HALF), (HALF, [1, 2]), (HALF, (True, 2)), ((1, 2), ("1", 2)), (HALF,),
            (HALF, HALF, (0, 1)), (HALF, None), ((2, 4), HALF), (HALF, (2, 4)), ((-1, -2), HALF), ((1, 1), (0, 1)),
            ((1, 1), (0, 2)), ((1, 0), (1, 0)), (HALF, (1, 2, 1)), (HALF, (1,)), (HALF, {}), (HALF, (1, [2])), (1, 2),
            ((HALF, HALF),), ((0, 0), (0, 0)), ((1, 2), (1, True)), ((3, 2), (-1, 2)), {HALF: HALF},
        )
        for value in strange_values() + extra:
            with self.subTest(value=value):
                self.assertIs(shows_shares(PAIR, (HALF, HALF), value), repr(value) == "((1, 2), (1, 2))")
                self.assertIs(shows_shares((2, ((1, 2),)), (HALF, HALF), value), value is None)
                self.assertIs(shows_shares((2, ()), (HALF, HALF), value), value is None)


class SharesPaper(unittest.TestCase):
    def test_each_case(self):
        for web, chances in cases():
            most = slow_most(web, chances)
            value = shares_paper(web, chances)
            if most is None:
                self.assertTrue(slow_paper(web, chances, value), (web, chances, value))
                self.assertTrue(all(type(part) is int for pair in value for part in pair))
            else:
                self.assertIsNone(value, (web, chances))
            self.assertIs(shows_shares_paper(web, chances, value), True)
            self.assertIs(shows_shares_paper(web, chances, None), most is not None)

    def test_edges(self):
        self.assertTrue(slow_paper((1, ()), ((1, 1),), shares_paper((1, ()), ((1, 1),))))
        self.assertTrue(slow_paper((6, ()), sure(6, 2), shares_paper((6, ()), sure(6, 2))))
        value = shares_paper(PATH, ((1, 60), (1, 60), (1, 60), (1, 60), (1, 60), (11, 12)))
        self.assertTrue(slow_paper(PATH, ((1, 60), (1, 60), (1, 60), (1, 60), (1, 60), (11, 12)), value))
        self.assertIsNone(shares_paper(CIRCLE, ((1, 6),) * 6))
        self.assertIsNone(shares_paper(PATH, sure(6, 1)))


class ShowsSharesPaper(unittest.TestCase):
    def test_each_tuple_of_small_ratios(self):
        ratios = [(top, bottom) for bottom in (1, 2) for top in (-4, -2, -1, 0, 1, 2, 3, 4, 5, 8)]
        chance = random.Random(271)
        for web, chances in with_chances(itertools.chain(*(small_webs(size) for size in (1, 2, 3))), 272):
            rows = list(itertools.product(ratios, repeat=web[0]))
            for row in rows if len(rows) < 500 else chance.sample(rows, 500):
                expected = slow_paper(web, chances, row)
                self.assertIs(shows_shares_paper(web, chances, row), expected, (web, chances, row))

    def test_values_near_good_ones(self):
        for web, chances in cases():
            good = shares_paper(web, chances)
            if good is not None:
                # Only differences matter, and each may be greater.
                parts = fractions_of(good)
                near = [good, good[::-1], good[1:], good + ((0, 1),)]
                near += [tuple(as_ratio(part * by - 7) for part in parts) for by in (1, Fraction(3, 2), Fraction(2, 3), -1)]
                for at, part in enumerate(parts):
                    for more in (-1, Fraction(-1, 60), Fraction(1, 60), 1):
                        near.append(good[:at] + (as_ratio(part + more),) + good[at + 1:])
                    near.append(good[:at] + ((2 * good[at][0], 2 * good[at][1]),) + good[at + 1:])
                for value in near:
                    expected = slow_paper(web, chances, value)
                    self.assertIs(shows_shares_paper(web, chances, value), expected, (web, chances, value))

    def test_just_enough(self):
        web, chances = (2, ((1, 2),)), ((1, 3), (2, 3))
        self.assertIs(shows_shares_paper(web, chances, ((0, 1), (3, 2))), True)
        self.assertIs(shows_shares_paper(web, chances, ((-3, 2), (0, 1))), True)
        self.assertIs(shows_shares_paper(web, chances, ((0, 1), (10 ** 40, 1))), True)
        self.assertIs(shows_shares_paper(web, chances, ((0, 1), (149, 100))), False)
        self.assertIs(shows_shares_paper(web, chances, ((3, 2), (0, 1))), False)

    def test_strange_values(self):
        web = (2, ((1, 2),))
        extra = (
            ((0, 1), (2, 1)), [(0, 1), (2, 1)], ([0, 1], (2, 1)), ((0, 1), [2, 1]), ((False, 1), (2, 1)), ((0, 1),),
            ((0, 1), (2, True)), ((0, 1), (2, 1), (4, 1)), ((0, 1), (1, 1)), ((0, 2), (2, 1)), ((0, 1), (4, 2)),
            ((0, -1), (2, 1)), ((0, 1), (-2, -1)), ((0, 1), (2, 0)), ((0, 1), None), ((0, 1), ("2", 1)), (0, 2),
            ((0, 1), (2,)), ((0, 1), (2, 1, 1)), ((0, 1), (2, [1])), ((0, 0), (2, 1)), ((0, 1), {}),
        )
        for value in strange_values() + extra:
            with self.subTest(value=value):
                self.assertIs(shows_shares_paper(web, (HALF, HALF), value), repr(value) == "((0, 1), (2, 1))")
                self.assertIs(shows_shares_paper(PAIR, (HALF, HALF), value), value is None)


class Evenest(unittest.TestCase):
    def test_each_case(self):
        found = set()
        for web, chances in cases():
            most = slow_most(web, chances)
            value = evenest(web, chances)
            if most is None:
                self.assertIsNone(value, (web, chances))
            else:
                self.assertTrue(slow_evenest(web, chances, value, most), (web, chances, value, most))
                self.assertTrue(all(type(part) is int for pair in (value[0],) + value[1] for part in pair))
                found.add(most)
            self.assertIs(shows_evenest(web, chances, value), True)
            self.assertIs(shows_evenest(web, chances, None), most is None)
        self.assertGreater(len(found), 50)

    def test_many_arcs(self):
        webs = [web for web in some_webs(273, 150, (4, 5, 6)) if len(web[1]) > 8]
        for web, chances in with_chances(webs, 274):
            value = evenest(web, chances)
            most = slow_most(web, chances)
            self.assertEqual(value and value[0], most, (web, chances))
            if most:
                self.assertTrue(slow_evenest(web, chances, value, most), (web, chances, value, most))

    def test_edges(self):
        self.assertIsNone(evenest((1, ()), ((1, 1),)))
        self.assertIsNone(evenest((6, ()), ((1, 6),) * 6))
        self.assertIsNone(evenest(PATH, ((1, 6),) * 6))
        self.assertEqual(evenest(CIRCLE, ((1, 6),) * 6), ((1, 6), ((1, 6),) * 6))
        self.assertEqual(evenest(FULL, ((1, 4),) * 4), ((1, 12), ((1, 12),) * 12))
        self.assertEqual(evenest(PATH, sure(6, 1)), ((1, 5), ((1, 5),) * 5))
        # The arc to the one who has all would take from the other, so that it gets nothing.
        self.assertEqual(evenest(PAIR, sure(2, 1)), ((1, 1), ((1, 1), (0, 1))))

    def test_shares_that_have_to_give_way(self):
        # The more arcs have a share at all, the evener it is: both circles, and as much over each as can be.
        web = (3, ((1, 2), (2, 1), (2, 3), (3, 2)))
        self.assertEqual(evenest(web, ((1, 3),) * 3), ((1, 4), ((1, 4),) * 4))
        web = (3, ((1, 2), (2, 3), (3, 1), (2, 1)))
        most, shares = evenest(web, ((1, 3),) * 3)
        self.assertEqual(most, slow_most(web, ((1, 3),) * 3))
        self.assertEqual((most, shares[0]), ((1, 3), (1, 3)))


class ShowsEvenest(unittest.TestCase):
    def test_values_near_good_ones(self):
        for web, chances in cases():
            good = evenest(web, chances)
            if good is not None:
                most, shares = good
                near = [good, (most, shares[::-1]), (most, shares[1:]), (most, shares + ((0, 1),))]
                for part in (Fraction(*most) / 2, Fraction(*most) * 2, Fraction(*most) - 1, Fraction(1)):
                    near.append((as_ratio(part), shares))
                near.append(((2 * most[0], 2 * most[1]), shares))
                for at in range(len(shares)):
                    for new in ((0, 1), most, (1, 1)):
                        near.append((most, shares[:at] + (new,) + shares[at + 1:]))
                for value in near:
                    expected = slow_evenest(web, chances, value, most)
                    self.assertIs(shows_evenest(web, chances, value), expected, (web, chances, value))

    def test_other_shares(self):
        web = (3, ((1, 2), (2, 1), (2, 3), (3, 2)))
        chances = ((1, 3),) * 3
        self.assertIs(shows_evenest(web, chances, ((1, 4), ((1, 4),) * 4)), True)
        # Shares, but not as even as can be.
        uneven = ((1, 8), (1, 8), (3, 8), (3, 8))
        self.assertIs(shows_shares(web, chances, uneven), True)
        self.assertIs(shows_evenest(web, chances, ((3, 8), uneven)), False)
        self.assertIs(shows_evenest(web, chances, ((1, 4), uneven)), False)
        # Any shares that exceed it nowhere.
        web = (3, ((1, 2), (2, 1), (1, 3), (3, 1)))
        chances = (HALF, HALF, (0, 1))
        most, shares = evenest(web, chances)
        self.assertEqual(most, (1, 3))
        self.assertEqual(shares[2], (1, 3))
        self.assertIs(shows_evenest(web, chances, (most, shares)), True)

    def test_strange_values(self):
        good = (HALF, (HALF, HALF))
        extra = (
            good, list(good), ([1, 2], good[1]), (HALF, [HALF, HALF]), (HALF, (HALF, [1, 2])), (HALF,), good + (HALF,),
            ((2, 4), good[1]), ((-1, -2), good[1]), ((True, 2), good[1]), (HALF, (HALF, (True, 2))), (None, good[1]),
            (HALF, None), (1, good[1]), (HALF, (HALF,)), (HALF, (HALF, (2, 4))), ((1, 2, 1), good[1]), ((1,), good[1]),
            (HALF, ((1, 1), (0, 1))), ((1, 1), good[1]), (HALF, ()), (HALF, {}), {HALF: good[1]}, ({}, good[1]),
            ("1/2", good[1]), (HALF, "ab"), ((1, [2]), good[1]), (good,), ((1, 0), good[1]),
        )
        for value in strange_values() + extra:
            with self.subTest(value=value):
                self.assertIs(shows_evenest(PAIR, (HALF, HALF), value), repr(value) == repr(good))
                self.assertIs(shows_evenest((2, ((1, 2),)), (HALF, HALF), value), value is None)


class Chances(unittest.TestCase):
    def test_bottoms_of_at_most_60(self):
        functions = ((shares_for, ()), (shares_paper, ()), (evenest, ()), (shows_shares, (None,)))
        functions += ((shows_shares_paper, (None,)), (shows_evenest, (None,)))
        for function, rest in functions:
            self.assertIsNone(error_of(function, (PAIR, ((1, 60), (59, 60))) + rest))
            self.assertIsNone(error_of(function, (PAIR, ((0, 1), (1, 1))) + rest))
            for chances in (((1, 61), (60, 61)), ((0, 60), (1, 1)), ((0, 2), (1, 1)), ((2, 2), (0, 1)), ((1, 1),), ()):
                self.assertIs(type(error_of(function, (PAIR, chances) + rest)), BadChances)
            self.assertIsNone(error_of(function, ((1, ()), ((1, 1),)) + rest))
            for chances in ((), ((0, 1),), ((1, 2),), ((1, 1), (0, 1)), (1, 1)):
                self.assertIs(type(error_of(function, ((1, ()), chances) + rest)), BadChances)

    def test_odd_bottoms(self):
        # Chances over many bottoms, whose common bottom is great.
        chances = ((1, 16), (13, 48), (3, 10), (8, 57), (11, 57), (1, 30))
        webs = [web for web in some_webs(275, 200, (6,)) if len(web[1]) == 12]
        self.assertGreater(len(webs), 5)
        for web in webs:
            value = evenest(web, chances)
            self.assertEqual(value and value[0], slow_most(web, chances))
            self.assertIs(shows_evenest(web, chances, value), True)
