"""Entries of a log that come by chance (point 22)."""

from bellcopies.common import at_first, check_count, check_odds, ratio, solved, weigh_steps, weights_of
from bellcopies.webs import check_people, check_web, next_rows
from bellcopies.winning import springs_of


def check_arc_odds(web, odds):
    """Raise an error unless these are a web and its odds."""
    check_web(web)
    check_odds(odds, len(web[1]))


def balance(web, weights, person):
    """The equation that a person's chance to win is on average the same behind one entry more."""
    factors = [0] * (web[0] + 1)
    for (source, taker), weight in zip(web[1], weights):
        if taker == person:
            factors[person - 1] += weight
        if source == person:
            factors[taker - 1] -= weight
    return factors


def wait_equations(web, odds, rows):
    """The equations of the mean numbers of entries until all say one sign, from each of these rows on."""
    weights, whole = weights_of(odds)
    following = next_rows(web, at_first(web[0]))
    places = {row: place for place, row in enumerate(rows)}
    equations = []
    for row in rows:
        factors = [0] * len(rows) + [whole]
        factors[places[row]] += whole
        for new, weight in zip(following[row], weights):
            if new in places:
                factors[places[new]] -= weight
        equations.append(factors)
    return equations


def win_chances(web, odds):
    """For each person the chance to win if entries come for ever, None if the web has more than one spring."""
    check_arc_odds(web, odds)
    if len(springs_of(web)) > 1:
        return None
    weights, _ = weights_of(odds)
    # All equations of balance add up to nothing, so the last one follows from the others.
    equations = [balance(web, weights, person) for person in range(1, web[0])]
    equations.append([1] * (web[0] + 1))
    return tuple(solved(equations))


def still_said(web, odds, many):
    """The mean number of unlike signs that are said behind so many entries."""
    check_arc_odds(web, odds)
    check_count(many, 8)
    check_people(web, 4)
    first = at_first(web[0])
    if not web[1]:
        return len(first), 1
    weights, _ = weights_of(odds)
    following = next_rows(web, first)
    choices = list(enumerate(weights))
    weighed = weigh_steps(first, choices, lambda row, index: following[row][index], many)
    signs = sum([weight * len(set(row)) for row, weight in weighed.items()])
    return ratio(signs, sum(list(weighed.values())))


def mean_agreed(web, odds):
    """The mean number of entries until all say one sign, None if the web has more than one spring."""
    check_arc_odds(web, odds)
    check_people(web, 3)
    if len(springs_of(web)) > 1:
        return None
    first = at_first(web[0])
    rows = [row for row in next_rows(web, first) if len(set(row)) > 1]
    # One person alone agrees from the beginning.
    return solved(wait_equations(web, odds, rows))[rows.index(first)] if rows else (0, 1)
