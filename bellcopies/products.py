"""Stairs one after another (point 6)."""

from bellcopies.common import at_first, check_count, check_size, check_stair, check_two_stairs, followed
from bellcopies.common import repeated, smallest_way, times_to_rest
from bellcopies.rows import behind
from bellcopies.stairs import all_stairs


def all_bell_numbers(size):
    """The ascending list of all bells of a size."""
    return list(range(2, size + 1))


def combined(one, other):
    """The stair of bells of the first stair and then bells of the second."""
    check_two_stairs(one, other)
    return followed(one, other)


def power(stair, many):
    """The stair of so many times bells of a stair."""
    check_stair(stair)
    check_count(many, 100)
    return repeated(stair, many)


def rest_of(stair):
    """The least number of times behind which one time more changes nothing."""
    check_stair(stair)
    return times_to_rest(stair)


def is_steady(stair):
    """Whether bells of a stair do the same twice as once."""
    check_stair(stair)
    return followed(stair, stair) == stair


def steady_stairs(size):
    """The ascending tuple of all steady stairs of a size."""
    check_size(size)
    return tuple([stair for stair in all_stairs(size) if followed(stair, stair) == stair])


def steady_count(size):
    """The number of all steady stairs of a size."""
    return len(steady_stairs(size))


def goes_on(one, other):
    """The smallest of the shortest rows of bells from the first stair on to the second, or None."""
    check_two_stairs(one, other)
    return smallest_way(one, lambda stair: stair == other, all_bell_numbers(len(one)), behind)


def goes_before(one, other):
    """The smallest of the shortest rows of bells that make the second stair before the first, or None."""
    check_two_stairs(one, other)
    first = at_first(len(one))
    return smallest_way(first, lambda stair: followed(stair, one) == other, all_bell_numbers(len(one)), behind)
