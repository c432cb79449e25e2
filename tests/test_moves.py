"""Points 9 and 10: bells from both sides."""

import itertools
import unittest

from bellcopies.errors import BadRising, BadSize, TooMany
from bellcopies.moves import (
    blocks, joined_moves, mirrored, move_count, move_rest, moves_of, ring_moves, rising_count, rising_rows, win_count,
    win_moves, wins,
)
from tests.support import error_of, shortest_words


def slow_moves(size, moves):
    """What `ring_moves` is to return, move by move."""
    says = {person: person for person in range(1, size + 1)}
    for move in moves:
        if move > 0:
            says[move] = says[move - 1]
        else:
            says[-move] = says[-move + 1]
    return tuple(says[person] for person in range(1, size + 1))


def behind_move(row, move):
    entries = list(row)
    if move > 0:
        entries[move - 1] = entries[move - 2]
    else:
        entries[-move - 1] = entries[-move]
    return tuple(entries)


def letters(size):
    return [move for move in range(-size, size + 1) if move not in (0, 1, -size)]


def shortest_moves(size):
    return shortest_words(tuple(range(1, size + 1)), letters(size), behind_move)


def slow_rising(size):
    rows = itertools.product(range(1, size + 1), repeat=size)
    return tuple(row for row in rows if list(row) == sorted(row))


class RingMoves(unittest.TestCase):
    def test_short_rows(self):
        for size, longest in ((2, 6), (3, 5), (4, 4)):
            for many in range(longest + 1):
                for moves in itertools.product(letters(size), repeat=many):
                    self.assertEqual(ring_moves(size, moves), slow_moves(size, moves))

    def test_edges(self):
        self.assertEqual(ring_moves(2, ()), (1, 2))
        self.assertEqual(ring_moves(8, (-7, 8, -1, 2)), (2, 2, 3, 4, 5, 6, 8, 8))
        moves = (-7, -6, -5, -4, -3, -2, -1, 8) * 5
        self.assertEqual(len(moves), 40)
        self.assertEqual(ring_moves(8, moves), slow_moves(8, moves))

    def test_what_comes_is_a_rising_row_and_each_comes(self):
        for size in (2, 3, 4):
            self.assertEqual(tuple(sorted(shortest_moves(size))), rising_rows(size))


class Rising(unittest.TestCase):
    def test_counts(self):
        self.assertEqual([rising_count(size) for size in range(2, 9)], [3, 10, 35, 126, 462, 1716, 6435])

    def test_rows(self):
        for size in (2, 3, 4, 5, 6):
            self.assertEqual(rising_rows(size), slow_rising(size))
            self.assertEqual(len(rising_rows(size)), rising_count(size))

    def test_limits(self):
        for size in (7, 8):
            error = error_of(rising_rows, (size,))
            self.assertIs(type(error), TooMany)
            self.assertEqual(error.most, 6)
        self.assertIs(type(error_of(rising_rows, (9,))), BadSize)
        for function in (move_count, moves_of):
            for rising in ((1,) * 7, (1, 2, 3, 4, 5, 6, 7), (8,) * 8):
                error = error_of(function, (rising,))
                self.assertIs(type(error), TooMany)
                self.assertEqual(error.most, 6)
            self.assertIs(type(error_of(function, ((1, 1, 1, 1, 1, 1, 8),))), BadRising)
            self.assertIs(type(error_of(function, ((2, 1, 1, 1, 1, 1, 1),))), BadRising)


class MovesOf(unittest.TestCase):
    def test_each_rising_row(self):
        for size in (2, 3, 4, 5, 6):
            known = shortest_moves(size)
            self.assertEqual(len(known), rising_count(size))
            for rising, (length, moves, _) in known.items():
                if size < 6 or length % 3 == 0:
                    self.assertEqual((move_count(rising), moves_of(rising)), (length, moves))

    def test_out_of_all_short_rows(self):
        found = {}
        for many in range(7):
            for moves in itertools.product(letters(3), repeat=many):
                found.setdefault(slow_moves(3, moves), moves)
        for rising in slow_rising(3):
            self.assertEqual(moves_of(rising), found[rising])
            self.assertEqual(move_count(rising), len(found[rising]))

    def test_no_moves(self):
        self.assertEqual((move_count((1, 2)), moves_of((1, 2))), (0, ()))
        self.assertEqual(moves_of((1, 2, 3, 4, 5, 6)), ())

    def test_longest(self):
        self.assertLessEqual(max(length for length, _, _ in shortest_moves(6).values()), 40)


class Mirrored(unittest.TestCase):
    def test_moves_seen_from_the_other_end(self):
        for size in (2, 3, 4, 5):
            for rising, (_, moves, _) in shortest_moves(size).items():
                other_way = [-(size + 1 - move) if move > 0 else size + 1 + move for move in moves]
                self.assertEqual(mirrored(rising), slow_moves(size, other_way))

    def test_greatest_length(self):
        self.assertEqual(mirrored((1, 1, 1, 2, 2, 8, 8, 8)), (1, 1, 1, 7, 7, 8, 8, 8))
        self.assertEqual(mirrored((1, 1)), (2, 2))


class Joined(unittest.TestCase):
    def test_is_what_both_rows_of_moves_make(self):
        for size in (2, 3, 4):
            known = shortest_moves(size)
            for one, other in itertools.product(known, known):
                self.assertEqual(joined_moves(one, other), slow_moves(size, known[one][1] + known[other][1]))

    def test_greatest_length(self):
        one, other = (1, 1, 2, 3, 5, 8, 8, 8), (2, 2, 4, 4, 5, 6, 7, 7)
        self.assertEqual(joined_moves(one, other), (1, 1, 3, 3, 5, 8, 8, 8))


class MoveRest(unittest.TestCase):
    def test_least_number_of_times(self):
        for size in (2, 3, 4, 5):
            for rising, (_, moves, _) in shortest_moves(size).items():
                times = 0
                while slow_moves(size, moves * times) != slow_moves(size, moves * (times + 1)):
                    times += 1
                self.assertEqual(move_rest(rising), times)

    def test_edges(self):
        self.assertEqual(move_rest((1, 2)), 0)
        self.assertEqual(move_rest((2, 2)), 1)
        self.assertEqual(move_rest((2, 3, 4, 5, 6, 7, 8, 8)), 7)
        self.assertEqual(move_rest((1, 2, 3, 4, 5, 6, 7, 8)), 0)


class Blocks(unittest.TestCase):
    def test_each_rising_row(self):
        for size in (2, 3, 4, 5):
            for rising in slow_rising(size):
                counts = [(sign, sum(1 for entry in rising if entry == sign)) for sign in range(1, size + 1)]
                self.assertEqual(blocks(rising), tuple(pair for pair in counts if pair[1]))

    def test_edges(self):
        self.assertEqual(blocks((2, 2)), ((2, 2),))
        self.assertEqual(blocks((8,) * 8), ((8, 8),))
        self.assertEqual(blocks((1, 2, 3, 4, 5, 6, 7, 8)), tuple((person, 1) for person in range(1, 9)))


class Winning(unittest.TestCase):
    def test_wins(self):
        for size, longest in ((2, 4), (3, 4), (4, 4)):
            for many in range(longest + 1):
                for moves in itertools.product(letters(size), repeat=many):
                    for person in range(1, size + 1):
                        expected = set(slow_moves(size, moves)) == {person}
                        self.assertIs(wins(size, moves, person), expected)

    def test_least_and_smallest_rows(self):
        for size in range(2, 9):
            known = shortest_moves(size)
            for person in range(1, size + 1):
                length, moves, _ = known[(person,) * size]
                self.assertEqual(win_count(size, person), length)
                self.assertEqual(win_moves(size, person), moves)
                self.assertIs(wins(size, moves, person), True)
