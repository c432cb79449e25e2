"""What several tests share: values that are not allowed, and slow but plain ways to an answer."""

import itertools

# Every kind of value that point 1 names, none of which is an integer.
NOT_INTEGERS = (
    True, False, None, "", "2", "abc", "\u00e9", (), (2,), (1, 2), ((2,),), (True,), (None, "a"),
    [], [2], [1, 2], [[2]], {}, {2: 2}, {"a": [1]}, ([],), ({},),
)

# Every kind of value that point 1 names, none of which is a tuple.
NOT_TUPLES = (
    True, False, None, 0, 1, 2, -1, 10 ** 40, "", "2", "abc", [], [1], [2], [1, 1], [2, 3], [(1, 2)],
    {}, {0: 1}, {1: 1, 2: 2}, {"a": (1,)},
)

# Entries that are not integers, to stand in tuples of integers.
NOT_ENTRIES = (True, False, None, "", "1", "2", (), (1,), (2,), ((2,),), [], [1], [2], {}, {1: 2})


def with_bad_entries(row):
    """The row with each value that is not an integer at each of its places."""
    return tuple(
        row[:at] + (entry,) + row[at + 1:] for at in range(len(row)) for entry in NOT_ENTRIES
    )


def strange_values():
    """Values to stand as the last argument of a function whose name begins with `shows`."""
    deep = ()
    for _ in range(50):
        deep = (deep,)
    entries = ((), (True,), (False,), (None,), ("0",), ((0,),), ([0],), ({},), (0, True), (0, "1"), (-1,), (10 ** 40,))
    return NOT_INTEGERS + NOT_TUPLES + entries + (deep, "0", [0], [0, 1], {0: 0}, -1, 10 ** 40)


def slow_ring(size, bells):
    """What `ring` is to return, bell by bell."""
    says = {person: person for person in range(1, size + 1)}
    for bell in bells:
        says[bell] = says[bell - 1]
    return tuple(says[person] for person in range(1, size + 1))


def slow_stairs(size):
    """What `stairs` is to return, out of all rows of numbers."""
    found = []
    for row in itertools.product(range(1, size + 1), repeat=size):
        fits = row[0] == 1 and all(entry <= at + 1 for at, entry in enumerate(row))
        if fits and all(row[at] <= row[at + 1] for at in range(size - 1)):
            found.append(row)
    return tuple(found)


def shortest_words(start, letters, after, longest=10 ** 9):
    """A dict from each state that words lead to, to (length, smallest word, number of shortest words).

    The words are searched level by level; all those of one length to one state are held against
    each other.
    """
    known = {start: (0, (), 1)}
    level = {start: ((), 1)}
    length = 0
    while level and length < longest:
        length += 1
        following = {}
        for state, (word, many) in level.items():
            for letter in letters:
                new = after(state, letter)
                if new in known:
                    continue
                best, sum_of = following.get(new, (word + (letter,), 0))
                following[new] = (min(best, word + (letter,)), sum_of + many)
        for state, (word, many) in following.items():
            known[state] = (length, word, many)
        level = following
    return known


def behind_bell(row, bell):
    """The row behind one bell."""
    entries = list(row)
    entries[bell - 1] = entries[bell - 2]
    return tuple(entries)


def shortest_bells(size):
    """For each stair of a size (length, smallest row of bells, number of shortest rows)."""
    return shortest_words(tuple(range(1, size + 1)), range(2, size + 1), behind_bell)


def error_of(function, arguments):
    """The error that a call raises, None if it raises none."""
    try:
        function(*arguments)
    except Exception as error:  # the test says which one is right
        return error
    return None
