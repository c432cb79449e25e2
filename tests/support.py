"""What several tests share: values that are not allowed, and slow but plain ways to an answer."""

import itertools
import random
from fractions import Fraction

# Every kind of value that point 1 names, none of which is an integer.
NOT_INTEGERS = (
    True, False, None, "", "2", "abc", "\u00e9", (), (2,), (1, 2), ((2,),), (True,), (None, "a"),
    [], [2], [1, 2], [[2]], {}, {2: 2}, {"a": [1]}, ([],), ({},),
)

# Every kind of value that point 1 names, none of which is a tuple.
NOT_TUPLES = (
    True, False, None, 0, 1, 2, -1, 10 ** 40, "", "2", "abc", [], [1], [2], [1, 1], [2, 3], [(1, 2)],
    {}, {0: 1}, {1: 1, 2: 2}, {"a": (1,)},
)

# Entries that are not integers, to stand in tuples of integers.
NOT_ENTRIES = (True, False, None, "", "1", "2", (), (1,), (2,), ((2,),), [], [1], [2], {}, {1: 2})


def with_bad_entries(row):
    """The row with each value that is not an integer at each of its places."""
    return tuple(
        row[:at] + (entry,) + row[at + 1:] for at in range(len(row)) for entry in NOT_ENTRIES
    )


def strange_values():
    """Values to stand as the last argument of a function whose name begins with `shows`."""
    deep = ()
    for _ in range(50):
        deep = (deep,)
    entries = ((), (True,), (False,), (None,), ("0",), ((0,),), ([0],), ({},), (0, True), (0, "1"), (-1,), (10 ** 40,))
    return NOT_INTEGERS + NOT_TUPLES + entries + (deep, "0", [0], [0, 1], {0: 0}, -1, 10 ** 40)


def slow_ring(size, bells):
    """What `ring` is to return, bell by bell."""
    says = {person: person for person in range(1, size + 1)}
    for bell in bells:
        says[bell] = says[bell - 1]
    return tuple(says[person] for person in range(1, size + 1))


def slow_stairs(size):
    """What `stairs` is to return, out of all rows of numbers."""
    found = []
    for row in itertools.product(range(1, size + 1), repeat=size):
        fits = row[0] == 1 and all(entry <= at + 1 for at, entry in enumerate(row))
        if fits and all(row[at] <= row[at + 1] for at in range(size - 1)):
            found.append(row)
    return tuple(found)


def shortest_words(start, letters, after, longest=10 ** 9):
    """A dict from each state that words lead to, to (length, smallest word, number of shortest words).

    The words are searched level by level; all those of one length to one state are held against
    each other.
    """
    known = {start: (0, (), 1)}
    level = {start: ((), 1)}
    length = 0
    while level and length < longest:
        length += 1
        following = {}
        for state, (word, many) in level.items():
            for letter in letters:
                new = after(state, letter)
                if new in known:
                    continue
                best, sum_of = following.get(new, (word + (letter,), 0))
                following[new] = (min(best, word + (letter,)), sum_of + many)
        for state, (word, many) in following.items():
            known[state] = (length, word, many)
        level = following
    return known


def behind_bell(row, bell):
    """The row behind one bell."""
    entries = list(row)
    entries[bell - 1] = entries[bell - 2]
    return tuple(entries)


def shortest_bells(size):
    """For each stair of a size (length, smallest row of bells, number of shortest rows)."""
    return shortest_words(tuple(range(1, size + 1)), range(2, size + 1), behind_bell)


def slow_says(web, signs, log):
    """What is said in the end, by the person."""
    size, arcs = web
    says = dict(zip(range(1, size + 1), signs))
    for index in log:
        says[arcs[index][1]] = says[arcs[index][0]]
    return tuple(says[person] for person in range(1, size + 1))


def people_of(web):
    """The people of a web, as the row that they say at first."""
    return tuple(range(1, web[0] + 1))


def arcs_among(size):
    """All arcs among so many people."""
    return list(itertools.permutations(range(1, size + 1), 2))


def small_webs(size):
    """A web with each set of arcs among so few people, the arcs in one order or another."""
    chance = random.Random(size)
    for many in range(len(arcs_among(size)) + 1):
        for arcs in itertools.combinations(arcs_among(size), many):
            yield size, tuple(chance.sample(arcs, many))


def some_webs(seed, many, sizes):
    """So many webs of these sizes by chance, with few arcs and with many."""
    chance = random.Random(seed)
    for _ in range(many):
        size = chance.choice(sizes)
        arcs = arcs_among(size)
        yield size, tuple(chance.sample(arcs, chance.randint(0, min(12, len(arcs)))))


def can_come(web, without, person, goal):
    """Whether a sign can come from the one to the other without some arcs."""
    found = {person}
    for _ in people_of(web):
        found |= {taker for at, (source, taker) in enumerate(web[1]) if at not in without and source in found}
    return goal in found


def priced(webs, seed):
    """The webs with prices by chance: some low ones, so that many are alike, and high ones."""
    chance = random.Random(seed)
    for web in webs:
        for most in (0, 3, 1000):
            yield web, tuple(chance.randint(0, most) for _ in web[1])


def least_prices(web, prices):
    """A dict from each row that logs reach to the least price, by trying all entries until nothing changes."""
    found = {people_of(web): 0}
    changed = True
    while changed:
        changed = False
        for row in list(found):
            for index, price in enumerate(prices):
                new = slow_says(web, row, (index,))
                if new not in found or found[row] + price < found[new]:
                    found[new] = found[row] + price
                    changed = True
    return found


def least_price(web, prices, person):
    """The least price to win, as that of the cheapest choice of an arc to each other person, None if there is none."""
    others = [other for other in people_of(web) if other != person]
    best = None
    for choice in itertools.product(*([at for at, arc in enumerate(web[1]) if arc[1] == other] for other in others)):
        found = {person}
        for _ in others:
            found |= {web[1][index][1] for index in choice if web[1][index][0] in found}
        if len(found) == web[0]:
            price = sum(prices[index] for index in choice)
            best = price if best is None else min(best, price)
    return best


def shortest_logs(web, signs):
    """For each row that logs make of these signs (length, smallest log, number of shortest logs)."""
    return shortest_words(signs, range(len(web[1])), lambda row, index: slow_says(web, row, (index,)))


def all_groups(size):
    """All ascending tuples of people, ascending."""
    people = range(1, size + 1)
    return sorted(group for many in range(size + 1) for group in itertools.combinations(people, many))


def as_ratio(number):
    """A fraction as the package gives it."""
    return number.numerator, number.denominator


def fractions_of(odds):
    """Odds as fractions."""
    return [Fraction(top, bottom) for top, bottom in odds]


def some_odds(seed, many):
    """Odds of so many things by chance."""
    chance = random.Random(seed)
    whole = chance.randint(max(many, 1), 60)
    cuts = sorted(chance.sample(range(1, whole), many - 1)) if many else []
    return tuple(as_ratio(Fraction(end - start, whole)) for start, end in zip([0] + cuts, cuts + [whole]))[:many]


def error_of(function, arguments):
    """The error that a call raises, None if it raises none."""
    try:
        function(*arguments)
    except Exception as error:  # the test says which one is right
        return error
    return None
