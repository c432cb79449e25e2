"""Bells that ring at once, in rounds (point 8)."""

from bellcopies.common import at_first, check_count, check_stair, is_row
from bellcopies.rows import rung
from bellcopies.stairs import bells_needed, bells_of


def least_rounds(stair):
    """The rounds, as lists of bells, in which each bell of a shortest row rings as early as it can.

    All shortest rows come from one another by exchanges of bells that may ring at once, and each
    longer row holds a shortest one; so no other row needs fewer rounds.
    """
    found = []
    busy = [0] * (len(stair) + 2)
    for bell in bells_of(stair):
        at = max(busy[bell - 1:bell + 2])
        busy[bell] = at + 1
        if at == len(found):
            found.append([])
        found[at].append(bell)
    return found


def is_round(size, value):
    """Whether a value is an ascending tuple of bells of which no two are next to each other."""
    if not is_row(value, 0, size, 2, size):
        return False
    return all(bell + 1 < following for bell, following in zip(value, value[1:]))


def rounds(stair):
    """The least number of rounds in which bells with a stair can ring."""
    check_stair(stair)
    return len(least_rounds(stair))


def round_plan(stair):
    """As few rounds of bells as can be, with a stair."""
    check_stair(stair)
    return tuple([tuple(sorted(bells)) for bells in least_rounds(stair)])


def shows_rounds(stair, value):
    """Whether a value is as few rounds of bells as can be, with the stair."""
    check_stair(stair)
    if not isinstance(value, tuple) or len(value) != len(least_rounds(stair)):
        return False
    row = at_first(len(stair))
    for bells in value:
        if not is_round(len(stair), bells):
            return False
        row = rung(row, bells)
    return row == stair


def in_reach(stair, many):
    """Whether bells with a stair are among the rows of just so many bells."""
    check_stair(stair)
    check_count(many, 100)
    needed = bells_needed(stair)
    # A bell can ring twice for once, but where no bell rings there is none to repeat.
    return many == needed or 0 < needed < many
