"""Stairs: what bells make of the first signs, and the shortest rows of bells with a stair (point 4).

Functions here that take a row also serve rings (point 11): a stair is a lift that begins with 1.
"""

from math import comb

from bellcopies.common import check_size, check_stair
from bellcopies.errors import TooMany


def all_stairs(size):
    """The ascending list of all stairs of a length."""
    rows = [(1,)]
    for place in range(2, size + 1):
        rows = [row + (entry,) for row in rows for entry in range(row[-1], place + 1)]
    return rows


def entry_behind(row, place):
    """The entry of the place behind this one, in the unrolled ring."""
    if place == len(row):
        return row[0] + len(row)
    return row[place]


def entry_before(row, place):
    """The entry of the place before this one, in the unrolled ring."""
    if place == 1:
        return row[-1] - len(row)
    return row[place - 2]


def bells_needed(row):
    """The number of bells in the shortest rows: for each number its last place less the number."""
    needed = 0
    for place, number in enumerate(row, 1):
        if entry_behind(row, place) != number:
            needed += place - number
    return needed


def last_bells(row):
    """The pairs (bell, row before it) with which a shortest row of bells can end."""
    pairs = []
    for place, number in enumerate(row, 1):
        behind = entry_behind(row, place)
        if entry_before(row, place) == number and behind != number:
            # Any other entry would be a number of its own, for which bells are needed too.
            before = row[:place - 1] + (min(place, behind),) + row[place:]
            pairs.append((place, before))
    return pairs


def smallest_bells(row, known):
    """The smallest of the shortest rows of bells; known holds those found so far."""
    if row not in known:
        choices = [smallest_bells(before, known) + (bell,) for bell, before in last_bells(row)]
        known[row] = min(choices, default=())
    return known[row]


def shortest_count(row, known):
    """The number of the shortest rows of bells; known holds those found so far."""
    if row not in known:
        counts = [shortest_count(before, known) for bell, before in last_bells(row)]
        known[row] = sum(counts) if counts else 1
    return known[row]


def shortest_rows(row):
    """All shortest rows of bells, in no order."""
    pairs = last_bells(row)
    if not pairs:
        return [()]
    return [bells + (bell,) for bell, before in pairs for bells in shortest_rows(before)]


def stairs(size):
    """The ascending tuple of all stairs of a length."""
    check_size(size)
    if size > 7:
        raise TooMany(7)
    return tuple(all_stairs(size))


def stair_count(size):
    """The number of all stairs of a length."""
    check_size(size)
    return comb(2 * size, size) // (size + 1)


def bells_of(stair):
    """The smallest of the shortest rows of bells with a stair."""
    check_stair(stair)
    return smallest_bells(stair, {})


def bell_count(stair):
    """The number of bells in a shortest row with a stair."""
    check_stair(stair)
    return bells_needed(stair)


def all_bells(stair):
    """The ascending tuple of all shortest rows of bells with a stair."""
    check_stair(stair)
    if shortest_count(stair, {}) > 300:
        raise TooMany(300)
    return tuple(sorted(shortest_rows(stair)))


def row_count(stair):
    """The number of all shortest rows of bells with a stair."""
    check_stair(stair)
    return shortest_count(stair, {})
