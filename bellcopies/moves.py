"""Moves, by which people take over from both sides (points 9 and 10)."""

from math import comb

from bellcopies.common import at_first, check_pair, check_person, check_size, followed, is_row
from bellcopies.common import never_falls, smallest_way, times_to_rest
from bellcopies.errors import BadMoves, BadRising, TooMany


def are_moves(size, value):
    """Whether a value is a row of moves for so many people."""
    return is_row(value, 0, 40, 1 - size, size) and 0 not in value and 1 not in value


def check_moves(size, moves):
    """Raise BadMoves unless these are moves for so many people."""
    if not are_moves(size, moves):
        raise BadMoves("moves are a tuple of at most 40 integers, each a person or less a person")


def is_rising(value):
    """Whether a value is a rising row."""
    return is_row(value, 2, 8, 1, 8) and never_falls(value) and value[-1] <= len(value)


def check_rising(rising):
    """Raise BadRising unless this is a rising row."""
    if not is_rising(rising):
        raise BadRising("a rising row never falls and has entries from 1 to its length")


def check_rising_search(rising):
    """Raise an error unless this is a rising row short enough for a search."""
    check_rising(rising)
    if len(rising) > 6:
        raise TooMany(6)


def all_moves(size):
    """The ascending list of all moves of a size."""
    return list(range(1 - size, 0)) + list(range(2, size + 1))


def behind_move(row, move):
    """The row behind one move."""
    if move > 0:
        return row[:move - 1] + (row[move - 2],) + row[move:]
    return row[:-move - 1] + (row[-move],) + row[-move:]


def moved(row, moves):
    """The row behind all moves, in their order."""
    for move in moves:
        row = behind_move(row, move)
    return row


def smallest_moves(rising):
    """The smallest of the shortest rows of moves with a rising row."""
    size = len(rising)
    return smallest_way(at_first(size), lambda row: row == rising, all_moves(size), behind_move)


def ring_moves(size, moves):
    """For each person, whose first sign this person says behind all moves."""
    check_size(size)
    check_moves(size, moves)
    return moved(at_first(size), moves)


def rising_count(size):
    """The number of rising rows of a length."""
    check_size(size)
    return comb(2 * size - 1, size)


def rising_rows(size):
    """The ascending tuple of all rising rows of a length."""
    check_size(size)
    if size > 6:
        raise TooMany(6)
    rows = [(entry,) for entry in range(1, size + 1)]
    for _ in range(size - 1):
        rows = [row + (entry,) for row in rows for entry in range(row[-1], size + 1)]
    return tuple(rows)


def move_count(rising):
    """The least number of moves with a rising row."""
    check_rising_search(rising)
    return len(smallest_moves(rising))


def moves_of(rising):
    """The smallest of the shortest rows of moves with a rising row."""
    check_rising_search(rising)
    return smallest_moves(rising)


def mirrored(rising):
    """The rising row of the moves seen from the other end."""
    check_rising(rising)
    return tuple([len(rising) + 1 - entry for entry in rising[::-1]])


def joined_moves(one, other):
    """The rising row of moves of the first and then moves of the second."""
    check_rising(one)
    check_rising(other)
    check_pair(one, other)
    return followed(one, other)


def move_rest(rising):
    """The least number of times behind which one time more changes nothing."""
    check_rising(rising)
    return times_to_rest(rising)


def blocks(rising):
    """The ascending tuple of the pairs (sign, people), for each sign how many people say it."""
    check_rising(rising)
    return tuple([(sign, rising.count(sign)) for sign in sorted(set(rising))])


def wins(size, moves, person):
    """Whether all say the sign of a person behind all moves."""
    check_size(size)
    check_moves(size, moves)
    check_person(size, person)
    return moved(at_first(size), moves) == (person,) * size


def win_count(size, person):
    """The least number of moves that make all say the sign of a person."""
    check_size(size)
    check_person(size, person)
    # A move changes one person, and one for each other person is enough.
    return size - 1


def win_moves(size, person):
    """The smallest of the shortest rows of moves that make all say the sign of a person."""
    check_size(size)
    check_person(size, person)
    # With one move for each other person, the sign can only spread outwards, on each side one by one.
    return tuple(list(range(1 - person, 0)) + list(range(person + 1, size + 1)))
