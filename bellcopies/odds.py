"""Bells that ring by chance, one after another (point 21)."""

from bellcopies.common import at_first, check_count, check_odds, check_person, check_size, is_stair, ratio, ratio_sum
from bellcopies.common import weigh_steps, weights_of
from bellcopies.errors import BadStair, TooMany
from bellcopies.rows import behind
from bellcopies.stairs import all_stairs


def check_few(size):
    """Raise TooMany if there are too many people for all stairs to be held."""
    if size > 5:
        raise TooMany(5)


def visits(size, odds):
    """A dict from each stair to the chance that it is ever there."""
    weights, _ = weights_of(odds)
    chances = {at_first(size): (1, 1)}
    # A bell that changes a stair makes it smaller, so that each comes behind all that lead to it.
    for stair in all_stairs(size)[::-1]:
        pairs = [(behind(stair, bell), weight) for bell, weight in enumerate(weights, 2)]
        changes = [(new, weight) for new, weight in pairs if new != stair]
        whole = sum([weight for _, weight in changes])
        top, bottom = chances[stair]
        for new, weight in changes:
            chances[new] = ratio_sum(chances.get(new, (0, 1)), ratio(top * weight, bottom * whole))
    return chances


def stair_chances(size, odds, many):
    """The ascending tuple of the pairs (stair, chance) of all stairs that may be there behind so many bells."""
    check_size(size)
    check_odds(odds, size - 1)
    check_count(many, 8)
    check_few(size)
    weights, _ = weights_of(odds)
    weighed = weigh_steps(at_first(size), list(enumerate(weights, 2)), behind, many)
    whole = sum(list(weighed.values()))
    return tuple([(stair, ratio(weighed[stair], whole)) for stair in sorted(weighed)])


def mean_wait(size, odds, person):
    """The mean number of bells until a person says the sign of person 1."""
    check_size(size)
    check_odds(odds, size - 1)
    check_person(size, person)
    wait = (0, 1)
    for top, bottom in odds[:person - 1]:
        wait = ratio_sum(wait, (bottom, top))
    return wait


def visit_chance(size, odds, stair):
    """The chance that a stair is ever there."""
    check_size(size)
    check_odds(odds, size - 1)
    if not is_stair(stair) or len(stair) != size:
        raise BadStair("this is not a stair of this size")
    check_few(size)
    return visits(size, odds)[stair]
