"""What several modules share: the checks of arguments, ratios, and work on rows of any kind."""

from math import gcd, lcm

from bellcopies.errors import BadBells, BadCount, BadOdds, BadPair, BadPerson, BadSigns, BadSize, BadStair


def is_number(value):
    """Whether a value is an integer."""
    # Python counts True and False as integers, the document does not.
    return isinstance(value, int) and not isinstance(value, bool)


def is_whole(value, least, most):
    """Whether a value is an integer from least to most."""
    return is_number(value) and least <= value <= most


def is_row(value, fewest, longest, least, most):
    """Whether a value is a tuple of fewest to longest integers from least to most."""
    if not isinstance(value, tuple) or not fewest <= len(value) <= longest:
        return False
    return all(is_whole(entry, least, most) for entry in value)


def never_falls(row):
    """Whether no entry is less than the one before it."""
    return all(before <= entry for before, entry in zip(row, row[1:]))


def ascends(row):
    """Whether each entry is greater than the one before it."""
    return all(before < entry for before, entry in zip(row, row[1:]))


def is_stair(value):
    """Whether a value is a stair."""
    if not is_row(value, 2, 8, 1, 8) or not never_falls(value):
        return False
    return all(entry <= place for place, entry in enumerate(value, 1))


def check_size(size):
    """Raise BadSize unless this is a size."""
    if not is_whole(size, 2, 8):
        raise BadSize("a size is an integer from 2 to 8")


def check_bells(size, bells):
    """Raise BadBells unless these are bells for so many people in a row."""
    if not is_row(bells, 0, 60, 2, size):
        raise BadBells("bells are a tuple of at most 60 integers from 2 to the size")


def check_signs(signs, fewest, longest):
    """Raise BadSigns unless these are the signs of fewest to longest people."""
    if not is_row(signs, fewest, longest, 0, 99):
        raise BadSigns("signs are a tuple of integers from 0 to 99, one for each person")


def check_person(size, person):
    """Raise BadPerson unless this is one of so many people."""
    if not is_whole(person, 1, size):
        raise BadPerson("a person is an integer from 1 to the size")


def check_count(many, most):
    """Raise BadCount unless this is an integer from 0 to the most."""
    if not is_whole(many, 0, most):
        raise BadCount("this number is not allowed here")


def check_stair(stair):
    """Raise BadStair unless this is a stair."""
    if not is_stair(stair):
        raise BadStair("a stair begins with 1, never falls and has no entry above its place")


def check_two_stairs(one, other):
    """Raise BadStair or BadPair unless these are two stairs of one length."""
    check_stair(one)
    check_stair(other)
    check_pair(one, other)


def check_pair(one, other):
    """Raise BadPair unless these two rows have one length."""
    if len(one) != len(other):
        raise BadPair("the second row is not as long as the first")


def check_odds(odds, many):
    """Raise BadOdds unless these are odds for so many things."""
    if not are_ratios(odds, many) or any(top <= 0 or bottom > 60 for top, bottom in odds):
        raise BadOdds("odds are a tuple of ratios greater than 0 with bottoms of at most 60, one for each thing")
    weights, whole = weights_of(odds)
    # Odds for nothing at all are allowed, and have no sum of 1.
    if many > 0 and sum(weights) != whole:
        raise BadOdds("the sum of odds is 1")


def is_ratio(value):
    """Whether a value is a ratio."""
    if not isinstance(value, tuple) or len(value) != 2 or not is_number(value[0]) or not is_number(value[1]):
        return False
    return value[1] > 0 and gcd(value[0], value[1]) == 1


def are_ratios(value, many):
    """Whether a value is a tuple of so many ratios."""
    return isinstance(value, tuple) and len(value) == many and all(is_ratio(part) for part in value)


def weights_of(ratios):
    """The pair of the list of integers that these ratios are over one bottom, and this bottom."""
    whole = 1
    for _, bottom in ratios:
        whole = lcm(whole, bottom)
    return [top * (whole // bottom) for top, bottom in ratios], whole


def ratio(top, bottom):
    """The ratio of two integers, the second of which is not 0."""
    shared = gcd(top, bottom)
    if bottom < 0:
        shared = -shared
    return top // shared, bottom // shared


def ratio_sum(one, other):
    """The sum of two ratios."""
    return ratio(one[0] * other[1] + other[0] * one[1], one[1] * other[1])


def at_first(size):
    """The row in which each person says the own sign."""
    return tuple(range(1, size + 1))


def followed(one, other):
    """The row behind what makes the first row and then what makes the second."""
    return tuple([one[number - 1] for number in other])


def repeated(row, many):
    """The row behind so many times what makes this row."""
    now = at_first(len(row))
    for _ in range(many):
        now = followed(now, row)
    return now


def times_to_rest(row):
    """The least number of times behind which one time more changes nothing."""
    times = 0
    now = at_first(len(row))
    following = row
    while following != now:
        now = following
        following = followed(now, row)
        times += 1
    return times


def smallest_way(start, is_goal, choices, after):
    """The smallest of the shortest rows of choices from a start to a goal, None if there is none.

    The choices ascend; after(state, choice) gives the next state.
    """
    seen = set()
    seen.add(start)
    # Each level is ascending by its ways, so the first way that is found to a state is the smallest.
    level = [((), start)]
    while level:
        following = []
        for way, state in level:
            if is_goal(state):
                return way
            for choice in choices:
                new = after(state, choice)
                if new not in seen:
                    seen.add(new)
                    following.append((way + (choice,), new))
        level = following
    return None


def cheapest_ways(start, priced, after, most):
    """A dict from each state to the pair (price, way) of a cheapest way of at most so many choices to it.

    Priced is a list of pairs (choice, price); after(state, choice) gives the next state.
    """
    found = {start: (0, ())}
    # What has become cheaper by the last choice: only from there something can become cheaper by one more.
    level = {start: (0, ())}
    for _ in range(most):
        following = {}
        for state, (price, way) in level.items():
            for choice, more in priced:
                new = after(state, choice)
                best = following.get(new, found.get(new))
                if best is None or price + more < best[0]:
                    following[new] = (price + more, way + (choice,))
        found.update(following)
        level = following
    return found


def weigh_steps(start, choices, after, many):
    """A dict from each state behind so many choices to the sum of the weights of the ways to it.

    The choices are pairs (choice, weight), and the weight of a way is the product of those of its
    choices; after(state, choice) gives the next state.
    """
    weighed = {start: 1}
    for _ in range(many):
        following = {}
        for state, weight in weighed.items():
            for choice, part in choices:
                new = after(state, choice)
                following[new] = following.get(new, 0) + weight * part
        weighed = following
    return weighed


def without_unknown(row, lead, at):
    """What an equation becomes without the unknown at this place, by means of a leading one with it."""
    new = [entry * lead[at] - row[at] * part for entry, part in zip(row, lead)]
    shared = 0
    for entry in new:
        shared = gcd(shared, entry)
    # Smaller numbers with the same solution: without this they would grow at each step.
    return [entry // max(shared, 1) for entry in new]


def solved(equations):
    """The list of the ratios that solve equations, of which there are as many as unknowns.

    Each is a list of integers, the factors of the unknowns and last their sum; they have just one
    solution.
    """
    left = list(equations)
    done = []
    for at in range(len(equations)):
        lead = [row for row in left if row[at] != 0][0]
        left = [without_unknown(row, lead, at) for row in left if row != lead]
        done = [without_unknown(row, lead, at) for row in done] + [lead]
    return [ratio(row[-1], row[at]) for at, row in enumerate(done)]
