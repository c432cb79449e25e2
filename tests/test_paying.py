"""Point 33: cheapest moves and cheapest logs to goals."""

import itertools
import random
import unittest

from bellcopies.errors import BadPrices, BadRising, TooMany
from bellcopies.moves import move_count, rising_count
from bellcopies.paying import cheap_goal, cheap_moves, shows_cheap_goal, shows_cheap_moves
from tests.support import arcs_among, error_of, least_prices, people_of, priced, slow_says, small_webs, some_webs
from tests.support import strange_values

FULL = (4, tuple(arcs_among(4)))
CIRCLE = (4, ((1, 2), (2, 3), (3, 4), (4, 1)))


def moves_of_size(size):
    """The moves in the order in which they have prices."""
    return [move for move in range(1 - size, size + 1) if move not in (0, 1)]


def slow_moved(size, row, moves):
    """The row behind moves."""
    says = dict(zip(range(1, size + 1), row))
    for move in moves:
        says[abs(move)] = says[abs(move) - 1 if move > 0 else abs(move) + 1]
    return tuple(says[person] for person in range(1, size + 1))


def least_of_moves(size, prices):
    """A dict from each rising row to its least price, by trying all moves until nothing changes."""
    found = {tuple(range(1, size + 1)): 0}
    changed = True
    while changed:
        changed = False
        for row in list(found):
            for move, price in zip(moves_of_size(size), prices):
                new = slow_moved(size, row, (move,))
                if new not in found or found[row] + price < found[new]:
                    found[new] = found[row] + price
                    changed = True
    return found


def slow_shows_moves(size, prices, rising, value, least):
    """Whether a pair of an integer and a tuple of integers is a price and moves of it."""
    price, moves = value
    if len(moves) > 40 or not all(move in moves_of_size(size) for move in moves):
        return False
    costs = dict(zip(moves_of_size(size), prices))
    says = slow_moved(size, range(1, size + 1), moves)
    return price == least == sum(costs[move] for move in moves) and says == rising


def slow_shows_goal(web, prices, goal, value, least):
    """Whether a pair of an integer and a tuple of integers is a price and a log of it."""
    price, log = value
    if len(log) > 60 or not all(0 <= index < len(web[1]) for index in log):
        return False
    return price == least == sum(prices[index] for index in log) and slow_says(web, people_of(web), log) == goal


def move_cases():
    chance = random.Random(230)
    for size, times in ((2, 10), (3, 10), (4, 5), (5, 2)):
        for most in (0, 3, 1000):
            for _ in range(times):
                yield size, tuple(chance.randint(0, most) for _ in moves_of_size(size))
        yield size, tuple(chance.choice((0, 1000)) for _ in moves_of_size(size))


def goal_cases():
    for size in (1, 2, 3):
        yield from priced(small_webs(size), 231 + size)
    yield from priced(some_webs(235, 12, (4,)), 236)
    yield from priced([FULL, CIRCLE], 237)


def goals_of(web, many, chance):
    """Some goals of a web, all if they are few."""
    goals = list(itertools.product(people_of(web), repeat=web[0]))
    return goals if len(goals) <= many else chance.sample(goals, many)


class CheapMoves(unittest.TestCase):
    def test_each_row(self):
        chance = random.Random(238)
        for size, prices in move_cases():
            found = least_of_moves(size, prices)
            self.assertEqual(len(found), rising_count(size))
            for rising in chance.sample(sorted(found), min(len(found), 40)):
                value = cheap_moves(size, prices, rising)
                self.assertEqual([type(part) for part in value], [int, tuple])
                self.assertTrue(slow_shows_moves(size, prices, rising, value, found[rising]), (prices, rising, value))
                self.assertIs(shows_cheap_moves(size, prices, rising, value), True)
                self.assertIs(shows_cheap_moves(size, prices, rising, None), False)

    def test_price_of_one_for_each_move(self):
        for size in (2, 3, 4):
            for rising in least_of_moves(size, (1,) * (2 * size - 2)):
                self.assertEqual(cheap_moves(size, (1,) * (2 * size - 2), rising)[0], move_count(rising))

    def test_order_of_prices(self):
        prices = (1, 20, 300, 40)
        self.assertEqual(cheap_moves(3, prices, (1, 3, 3)), (1, (-2,)))
        self.assertEqual(cheap_moves(3, prices, (2, 2, 3)), (20, (-1,)))
        self.assertEqual(cheap_moves(3, prices, (1, 1, 3)), (300, (2,)))
        self.assertEqual(cheap_moves(3, prices, (1, 2, 2)), (40, (3,)))

    def test_edges(self):
        self.assertEqual(cheap_moves(2, (0, 1000), (1, 1)), (1000, (2,)))
        self.assertEqual(cheap_moves(2, (0, 1000), (2, 2)), (0, (-1,)))
        for size in (2, 3, 4, 5):
            self.assertEqual(cheap_moves(size, (1000,) * (2 * size - 2), tuple(range(1, size + 1)))[0], 0)
            all_one = cheap_moves(size, (1000,) * (2 * size - 2), (1,) * size)
            self.assertEqual(all_one, (1000 * (size - 1), tuple(range(2, size + 1))))

    def test_moves_of_no_price(self):
        self.assertEqual(cheap_moves(3, (5, 0, 7, 0), (2, 2, 2))[0], 0)
        self.assertEqual(cheap_moves(3, (5, 0, 7, 0), (1, 1, 1))[0], 7)
        self.assertEqual(cheap_moves(3, (5, 0, 7, 0), (3, 3, 3))[0], 5)


class ShowsCheapMoves(unittest.TestCase):
    def test_each_short_row(self):
        for size, longest, prices in ((2, 4, (0, 2)), (2, 4, (1, 0)), (3, 3, (1, 1, 0, 2)), (3, 3, (0, 0, 0, 0))):
            found = least_of_moves(size, prices)
            numbers = range(-size, size + 2)
            for rising in found:
                for many in range(longest + 1):
                    for moves in itertools.product(numbers, repeat=many):
                        for price in (found[rising], found[rising] + 1):
                            value = (price, moves)
                            expected = slow_shows_moves(size, prices, rising, value, found[rising])
                            self.assertIs(shows_cheap_moves(size, prices, rising, value), expected)

    def test_number_of_moves(self):
        self.assertIs(shows_cheap_moves(2, (0, 0), (1, 1), (0, (2,) * 40)), True)
        self.assertIs(shows_cheap_moves(2, (0, 0), (1, 1), (0, (2,) * 41)), False)
        self.assertIs(shows_cheap_moves(2, (0, 0), (1, 1), (0, ())), False)
        self.assertIs(shows_cheap_moves(2, (0, 0), (1, 2), (0, ())), True)

    def test_any_such_moves(self):
        self.assertIs(shows_cheap_moves(4, (1, 1, 1, 1, 1, 1), (1, 1, 3, 3), (2, (2, 4))), True)
        self.assertIs(shows_cheap_moves(4, (1, 1, 1, 1, 1, 1), (1, 1, 3, 3), (2, (4, 2))), True)
        self.assertIs(shows_cheap_moves(4, (1, 1, 1, 1, 1, 1), (1, 1, 3, 3), (3, (4, 2, 2))), False)
        self.assertIs(shows_cheap_moves(4, (1, 1, 1, 0, 1, 1), (1, 1, 3, 3), (1, (4, 2, 2))), True)

    def test_strange_values(self):
        extra = (
            (4, (2,)), [4, (2,)], (4, [2]), (True, (2,)), (4, (True,)), (4, (2,), 1), (4,), ("4", (2,)), (4, "2"),
            (4, (3,)), (4, (-1,)), (4, (0,)), (4, (1,)), (4, (None,)), (None, (2,)), (4, None), ((2,), 4), (3, (-1,)),
            (8, (2, 2)), (4, {}), (4, ()), {4: (2,)}, (10 ** 40, (2,)), (4, (10 ** 40,)), (4, (-2,)), ((4, (2,)),),
        )
        for value in strange_values() + extra:
            with self.subTest(value=value):
                self.assertIs(shows_cheap_moves(2, (3, 4), (1, 1), value), repr(value) == "(4, (2,))")


class CheapGoal(unittest.TestCase):
    def test_each_goal(self):
        chance = random.Random(239)
        for web, prices in goal_cases():
            found = least_prices(web, prices)
            for goal in goals_of(web, 30, chance):
                value = cheap_goal(web, prices, goal)
                if goal in found:
                    self.assertEqual([type(part) for part in value], [int, tuple])
                    self.assertTrue(slow_shows_goal(web, prices, goal, value, found[goal]), (web, prices, goal, value))
                else:
                    self.assertIsNone(value)
                self.assertIs(shows_cheap_goal(web, prices, goal, value), True)
                self.assertIs(shows_cheap_goal(web, prices, goal, None), goal not in found)

    def test_edges(self):
        self.assertEqual(cheap_goal((1, ()), (), (1,)), (0, ()))
        self.assertEqual(cheap_goal((4, ()), (), (1, 2, 3, 4)), (0, ()))
        self.assertIsNone(cheap_goal((4, ()), (), (1, 2, 3, 3)))
        self.assertIsNone(cheap_goal((2, ((1, 2),)), (0,), (2, 1)))
        self.assertEqual(cheap_goal((2, ((1, 2),)), (0,), (1, 1)), (0, (0,)))
        self.assertEqual(cheap_goal((2, ((1, 2),)), (1000,), (1, 2)), (0, ()))
        self.assertEqual(cheap_goal(CIRCLE, (1000,) * 4, (1, 1, 1, 1)), (3000, (0, 1, 2)))

    def test_many_cheap_entries_instead_of_few(self):
        web = (4, ((1, 4), (1, 2), (2, 3), (3, 4)))
        self.assertEqual(cheap_goal(web, (9, 1, 1, 1), (1, 1, 1, 1)), (3, (1, 2, 3)))
        self.assertEqual(cheap_goal(web, (2, 1, 1, 1), (1, 2, 3, 1)), (2, (0,)))


class ShowsCheapGoal(unittest.TestCase):
    def test_each_short_log(self):
        chance = random.Random(240)
        for web, prices in priced(some_webs(241, 20, (1, 2, 3)), 242):
            found = least_prices(web, prices)
            for goal in goals_of(web, 8, chance):
                for many in range(4):
                    for log in itertools.product(range(-1, min(len(web[1]), 3) + 1), repeat=many):
                        cost = sum(prices[index] for index in log if 0 <= index < len(web[1]))
                        for price in (cost, cost + 1):
                            expected = slow_shows_goal(web, prices, goal, (price, log), found.get(goal))
                            self.assertIs(shows_cheap_goal(web, prices, goal, (price, log)), expected)

    def test_length_of_logs(self):
        web = (2, ((1, 2),))
        self.assertIs(shows_cheap_goal(web, (0,), (1, 1), (0, (0,) * 60)), True)
        self.assertIs(shows_cheap_goal(web, (0,), (1, 1), (0, (0,) * 61)), False)
        self.assertIs(shows_cheap_goal(web, (0,), (1, 1), (0, ())), False)
        self.assertIs(shows_cheap_goal((1, ()), (), (1,), (0, ())), True)

    def test_strange_values(self):
        web = (2, ((1, 2),))
        extra = (
            (1, (0,)), [1, (0,)], (1, [0]), (True, (0,)), (1, (False,)), (1, (0,), 1), (1,), ("1", (0,)), (1, "0"),
            (1, (1,)), (1, (-1,)), (1, (None,)), (None, (0,)), (1, None), ((0,), 1), (2, (0, 0)), (0, (0,)), (1, {}),
            (1, ()), {1: (0,)}, (10 ** 40, (0,)), (0, ()),
        )
        for value in strange_values() + extra:
            with self.subTest(value=value):
                self.assertIs(shows_cheap_goal(web, (1,), (1, 1), value), repr(value) == "(1, (0,))")
                self.assertIs(shows_cheap_goal(web, (1,), (2, 2), value), value is None)


class Limits(unittest.TestCase):
    def check_too_many(self, function, arguments, most):
        error = error_of(function, arguments)
        self.assertIs(type(error), TooMany)
        self.assertEqual(error.most, most)

    def test_sizes(self):
        for size in (6, 7, 8):
            prices = (1,) * (2 * size - 2)
            self.check_too_many(cheap_moves, (size, prices, (1,) * size), 5)
            self.check_too_many(shows_cheap_moves, (size, prices, (1,) * size, None), 5)
            self.assertIs(type(error_of(cheap_moves, (size, prices[1:], (1,) * size))), BadPrices)
            self.assertIs(type(error_of(cheap_moves, (size, prices, (1,) * (size - 1)))), BadRising)

    def test_number_of_prices(self):
        for size in range(2, 9):
            for many in range(20):
                if many != 2 * size - 2:
                    self.assertIs(type(error_of(cheap_moves, (size, (1,) * many, (1,) * size))), BadPrices)

    def test_people(self):
        for web in ((5, ()), (6, ((1, 2),)), (5, tuple(arcs_among(5))[:12])):
            prices = (1000,) * len(web[1])
            self.check_too_many(cheap_goal, (web, prices, people_of(web)), 4)
            self.check_too_many(shows_cheap_goal, (web, prices, people_of(web), None), 4)
