"""What several modules share: the checks of arguments, and work on rows of any kind."""

from bellcopies.errors import BadBells, BadCount, BadPair, BadPerson, BadSigns, BadSize, BadStair


def is_whole(value, least, most):
    """Whether a value is an integer from least to most."""
    # Python counts True and False as integers, the document does not.
    return isinstance(value, int) and not isinstance(value, bool) and least <= value <= most


def is_row(value, fewest, longest, least, most):
    """Whether a value is a tuple of fewest to longest integers from least to most."""
    if not isinstance(value, tuple) or not fewest <= len(value) <= longest:
        return False
    return all(is_whole(entry, least, most) for entry in value)


def never_falls(row):
    """Whether no entry is less than the one before it."""
    return all(before <= entry for before, entry in zip(row, row[1:]))


def ascends(row):
    """Whether each entry is greater than the one before it."""
    return all(before < entry for before, entry in zip(row, row[1:]))


def is_stair(value):
    """Whether a value is a stair."""
    if not is_row(value, 2, 8, 1, 8) or not never_falls(value):
        return False
    return all(entry <= place for place, entry in enumerate(value, 1))


def check_size(size):
    """Raise BadSize unless this is a size."""
    if not is_whole(size, 2, 8):
        raise BadSize("a size is an integer from 2 to 8")


def check_bells(size, bells):
    """Raise BadBells unless these are bells for so many people in a row."""
    if not is_row(bells, 0, 60, 2, size):
        raise BadBells("bells are a tuple of at most 60 integers from 2 to the size")


def check_signs(signs, fewest, longest):
    """Raise BadSigns unless these are the signs of fewest to longest people."""
    if not is_row(signs, fewest, longest, 0, 99):
        raise BadSigns("signs are a tuple of integers from 0 to 99, one for each person")


def check_person(size, person):
    """Raise BadPerson unless this is one of so many people."""
    if not is_whole(person, 1, size):
        raise BadPerson("a person is an integer from 1 to the size")


def check_count(many, most):
    """Raise BadCount unless this is an integer from 0 to the most."""
    if not is_whole(many, 0, most):
        raise BadCount("this number is not allowed here")


def check_stair(stair):
    """Raise BadStair unless this is a stair."""
    if not is_stair(stair):
        raise BadStair("a stair begins with 1, never falls and has no entry above its place")


def check_two_stairs(one, other):
    """Raise BadStair or BadPair unless these are two stairs of one length."""
    check_stair(one)
    check_stair(other)
    check_pair(one, other)


def check_pair(one, other):
    """Raise BadPair unless these two rows have one length."""
    if len(one) != len(other):
        raise BadPair("the second row is not as long as the first")


def at_first(size):
    """The row in which each person says the own sign."""
    return tuple(range(1, size + 1))


def followed(one, other):
    """The row behind what makes the first row and then what makes the second."""
    return tuple([one[number - 1] for number in other])


def times_to_rest(row):
    """The least number of times behind which one time more changes nothing."""
    times = 0
    now = at_first(len(row))
    following = row
    while following != now:
        now = following
        following = followed(now, row)
        times += 1
    return times


def smallest_way(start, is_goal, choices, after):
    """The smallest of the shortest rows of choices from a start to a goal, None if there is none.

    The choices ascend; after(state, choice) gives the next state.
    """
    seen = set()
    seen.add(start)
    # Each level is ascending by its ways, so the first way that is found to a state is the smallest.
    level = [((), start)]
    while level:
        following = []
        for way, state in level:
            if is_goal(state):
                return way
            for choice in choices:
                new = after(state, choice)
                if new not in seen:
                    seen.add(new)
                    following.append((way + (choice,), new))
        level = following
    return None
