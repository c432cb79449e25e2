"""Stairs that are below others (point 7)."""

from bellcopies.common import check_size, check_stair, check_two_stairs
from bellcopies.stairs import all_stairs


def lies_below(one, other):
    """Whether no entry of the first row is greater than that of the second at the same place."""
    return all(entry <= limit for entry, limit in zip(one, other))


def loss(stair):
    """The sum of what all entries are less than their places."""
    return sum(place - entry for place, entry in enumerate(stair, 1))


def stairs_covered(stair):
    """The ascending list of the stairs that are one entry by one less than this one."""
    found = []
    for at in range(1, len(stair)):
        # An entry that stands like the one before it cannot fall, the row would fall there.
        if stair[at] > stair[at - 1]:
            found.append(stair[:at] + (stair[at] - 1,) + stair[at + 1:])
    return sorted(found)


def is_below(one, other):
    """Whether the first stair is below the second."""
    check_two_stairs(one, other)
    return lies_below(one, other)


def meet(one, other):
    """The greatest stair below both."""
    check_two_stairs(one, other)
    return tuple([min(entry, against) for entry, against in zip(one, other)])


def join(one, other):
    """The least stair that both are below."""
    check_two_stairs(one, other)
    return tuple([max(entry, against) for entry, against in zip(one, other)])


def rank(stair):
    """The sum of what all entries are less than their places."""
    check_stair(stair)
    return loss(stair)


def rank_counts(size):
    """The number of stairs of each rank, from 0 on."""
    check_size(size)
    counts = [0] * (size * (size - 1) // 2 + 1)
    for stair in all_stairs(size):
        counts[loss(stair)] += 1
    return tuple(counts)


def covers(stair):
    """The ascending tuple of the stairs below this one whose rank is one greater."""
    check_stair(stair)
    return tuple(stairs_covered(stair))


def chain_count(one, other):
    """The number of ways by covers from the first stair down to the second."""
    check_two_stairs(one, other)
    ways = {one: 1}
    for _ in range(loss(other) - loss(one)):
        following = {}
        for stair, many in ways.items():
            for lower in stairs_covered(stair):
                if lies_below(other, lower):
                    following[lower] = following.get(lower, 0) + many
        ways = following
    return ways.get(other, 0)
