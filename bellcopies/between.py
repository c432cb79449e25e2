"""Stairs between others, and what a stair leaves to each person (point 34)."""

from bellcopies.common import check_stair, check_two_stairs, followed, repeated, times_to_rest
from bellcopies.order import lies_below
from bellcopies.stairs import all_stairs


def between_count(one, other):
    """The number of stairs below the first one that the second is below."""
    check_two_stairs(one, other)
    return len([stair for stair in all_stairs(len(one)) if lies_below(other, stair) and lies_below(stair, one)])


def steady_below(stair):
    """The greatest steady stair below a stair."""
    check_stair(stair)
    # A steady stair below leaves their own sign only to people to whom the stair leaves it; and all
    # the others come to say the sign of one of these if bells of the stair ring again and again.
    return repeated(stair, times_to_rest(stair))


def steady_above(stair):
    """The ascending tuple of all least steady stairs that a stair is below."""
    check_stair(stair)
    steady = [other for other in all_stairs(len(stair)) if lies_below(stair, other) and followed(other, other) == other]
    least = []
    for other in steady:
        if not any(lower != other and lies_below(lower, other) for lower in steady):
            least.append(other)
    return tuple(least)


def single(stair):
    """The ascending tuple of the bells whose stairs, of one bell alone, a stair is below."""
    check_stair(stair)
    # Such a stair has one entry less than its place, that of the bell.
    return tuple([place for place, entry in enumerate(stair, 1) if entry < place])


def own(stair):
    """The ascending tuple of the people who say their own sign."""
    check_stair(stair)
    return tuple([place for place, entry in enumerate(stair, 1) if entry == place])


def lost(stair):
    """The ascending tuple of the people whose sign nobody says."""
    check_stair(stair)
    return tuple([person for person in range(1, len(stair) + 1) if person not in stair])
