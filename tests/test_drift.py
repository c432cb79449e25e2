"""Point 22: entries that come by chance."""

import itertools
import unittest
from fractions import Fraction

from bellcopies.drift import mean_agreed, still_said, win_chances
from bellcopies.errors import BadOdds, TooMany
from tests.support import arcs_among, as_ratio, error_of, fractions_of, people_of, shortest_logs, slow_says
from tests.support import small_webs, some_odds, some_webs

CIRCLE = (6, tuple((person, person % 6 + 1) for person in range(1, 7)))


def with_odds(webs):
    for seed, web in enumerate(webs):
        yield web, some_odds(seed, len(web[1]))


def winners(web):
    rows = shortest_logs(web, people_of(web)) if web[0] < 5 else ()
    return [person for person in people_of(web) if (person,) * web[0] in rows]


def slow_solved(rows):
    """The solution of equations, by taking the unknowns out one by one and putting them in again."""
    if not rows:
        return []
    first = next(row for row in rows if row[0])
    rest = []
    for row in rows:
        if row is not first:
            rest.append([entry - row[0] / first[0] * part for entry, part in zip(row, first)][1:])
    later = slow_solved(rest)
    return [(first[-1] - sum(part * value for part, value in zip(first[1:-1], later))) / first[0]] + later


def means_behind(web, odds, at_end, by_entry):
    """For the first row the mean of what is got at the end, where all agree, and by each entry before."""
    rows = [row for row in shortest_logs(web, people_of(web)) if len(set(row)) > 1]
    if not rows:
        return Fraction(at_end(people_of(web)))
    equations = []
    for row in rows:
        factors = [Fraction(int(row == other)) for other in rows] + [Fraction(by_entry)]
        for index, part in enumerate(fractions_of(odds)):
            new = slow_says(web, row, (index,))
            if new in rows:
                factors[rows.index(new)] -= part
            else:
                factors[-1] += part * at_end(new)
        equations.append(factors)
    return slow_solved(equations)[rows.index(people_of(web))]


def tree_chances(web, odds):
    """The chances to win as the sums over all trees out of each person, of the products of the odds."""
    parts = fractions_of(odds)
    sums = []
    for person in people_of(web):
        total = Fraction(0)
        others = [other for other in people_of(web) if other != person]
        for tree in itertools.product(*([at for at, arc in enumerate(web[1]) if arc[1] == other] for other in others)):
            found = {person}
            for _ in others:
                found |= {web[1][index][1] for index in tree if web[1][index][0] in found}
            if len(found) == web[0]:
                chance = Fraction(1)
                for index in tree:
                    chance *= parts[index]
                total += chance
        sums.append(total)
    return tuple(as_ratio(part / sum(sums)) for part in sums) if sum(sums) else None


class WinChances(unittest.TestCase):
    def test_by_all_rows(self):
        for web, odds in with_odds(itertools.chain(*(small_webs(size) for size in (1, 2, 3)))):
            if winners(web):
                expected = tuple(
                    as_ratio(means_behind(web, odds, lambda row: int(row[0] == person), 0)) for person in people_of(web)
                )
                self.assertEqual(win_chances(web, odds), expected, (web, odds))
            else:
                self.assertIsNone(win_chances(web, odds))

    def test_more_people(self):
        several = 0
        for web, odds in with_odds(some_webs(90, 150, (3, 4, 5, 6))):
            expected = tree_chances(web, odds)
            several += expected is not None and max(expected) != (1, 1)
            self.assertEqual(win_chances(web, odds), expected, (web, odds))
        self.assertGreater(several, 20)

    def test_edges(self):
        self.assertEqual(win_chances((1, ()), ()), ((1, 1),))
        self.assertIsNone(win_chances((2, ()), ()))
        self.assertEqual(win_chances((2, ((1, 2),)), ((1, 1),)), ((1, 1), (0, 1)))
        self.assertEqual(win_chances((2, ((1, 2), (2, 1))), ((1, 60), (59, 60))), ((1, 60), (59, 60)))
        self.assertEqual(win_chances(CIRCLE, ((1, 6),) * 6), ((1, 6),) * 6)
        path = (6, tuple((person, person + 1) for person in range(1, 6)))
        self.assertEqual(win_chances(path, ((1, 5),) * 5), ((1, 1),) + ((0, 1),) * 5)
        self.assertIsNone(win_chances((3, ((1, 2), (3, 2))), ((1, 2), (1, 2))))

    def test_more_than_one_spring(self):
        circles = ((1, 3), (3, 5), (5, 1), (2, 4), (4, 6), (6, 2))
        for web in ((6, ()), (4, ((1, 2), (2, 1), (3, 4), (4, 3))), (6, circles)):
            self.assertIsNone(win_chances(web, some_odds(1, len(web[1]))))


class StillSaid(unittest.TestCase):
    def test_out_of_all_logs(self):
        for web, odds in with_odds(some_webs(91, 60, (1, 2, 3, 4))):
            parts = fractions_of(odds)
            for many in range(5):
                if web[1] and len(web[1]) ** many < 1500:
                    mean = Fraction(0)
                    for log in itertools.product(range(len(web[1])), repeat=many):
                        chance = Fraction(1)
                        for index in log:
                            chance *= parts[index]
                        mean += chance * len(set(slow_says(web, people_of(web), log)))
                    self.assertEqual(still_said(web, odds, many), as_ratio(mean))

    def test_most_entries(self):
        both = (2, ((1, 2), (2, 1)))
        self.assertEqual(still_said(both, ((1, 3), (2, 3)), 0), (2, 1))
        for many in range(1, 9):
            self.assertEqual(still_said(both, ((1, 3), (2, 3)), many), (1, 1))
        # Two signs are left behind 1 .. 1 0 .. 0, where no second arc comes behind a first one.
        path = (3, ((1, 2), (2, 3)))
        for many in range(1, 9):
            two = Fraction(many + 1, 2 ** many)
            self.assertEqual(still_said(path, ((1, 2), (1, 2)), many), as_ratio(1 + two))
        full = (4, tuple(arcs_among(4)))
        chances = {people_of(full): Fraction(1)}
        for _ in range(8):
            following = {}
            for row, chance in chances.items():
                for index in range(12):
                    new = slow_says(full, row, (index,))
                    following[new] = following.get(new, 0) + chance / 12
            chances = following
        mean = sum(chance * len(set(row)) for row, chance in chances.items())
        self.assertEqual(still_said(full, ((1, 12),) * 12, 8), as_ratio(mean))

    def test_no_arcs(self):
        for size in (1, 2, 3, 4):
            for many in range(9):
                self.assertEqual(still_said((size, ()), (), many), (size, 1))


class MeanAgreed(unittest.TestCase):
    def test_by_all_rows(self):
        for web, odds in with_odds(itertools.chain(*(small_webs(size) for size in (1, 2, 3)))):
            if winners(web):
                expected = as_ratio(means_behind(web, odds, lambda row: 0, 1))
                self.assertEqual(mean_agreed(web, odds), expected, (web, odds))
            else:
                self.assertIsNone(mean_agreed(web, odds))

    def test_edges(self):
        self.assertEqual(mean_agreed((1, ()), ()), (0, 1))
        self.assertIsNone(mean_agreed((2, ()), ()))
        self.assertIsNone(mean_agreed((3, ()), ()))
        self.assertEqual(mean_agreed((2, ((2, 1),)), ((1, 1),)), (1, 1))
        self.assertEqual(mean_agreed((3, ((1, 2), (2, 3))), ((1, 60), (59, 60))), as_ratio(60 + Fraction(60, 59)))
        self.assertEqual(mean_agreed((3, tuple(arcs_among(3))), ((1, 6),) * 6), (4, 1))


class Limits(unittest.TestCase):
    def test_people(self):
        for web in ((4, ()), (4, ((1, 2), (2, 3), (3, 4))), (5, ()), (6, ())):
            odds = some_odds(2, len(web[1]))
            error = error_of(mean_agreed, (web, odds))
            self.assertIs(type(error), TooMany)
            self.assertEqual(error.most, 3)
            if web[0] > 4:
                error = error_of(still_said, (web, odds, 0))
                self.assertIs(type(error), TooMany)
                self.assertEqual(error.most, 4)

    def test_odds_of_no_arcs(self):
        for function, rest in ((win_chances, ()), (still_said, (1,)), (mean_agreed, ())):
            for web in ((1, ()), (2, ())):
                self.assertIsNone(error_of(function, (web, ()) + rest))
                for odds in (((1, 1),), ((0, 1),), ((),), [], None, 0, "", {}, False):
                    self.assertIs(type(error_of(function, (web, odds) + rest)), BadOdds)
            for odds in ((), ((1, 2),), ((0, 1),), ((2, 1),), ((1, 2), (1, 2))):
                self.assertIs(type(error_of(function, ((2, ((1, 2),)), odds) + rest)), BadOdds)
