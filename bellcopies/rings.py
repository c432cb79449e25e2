"""People in a ring, and lifts, which tell from which place a sign has come (points 11 and 12)."""

from bellcopies.common import at_first, check_count, check_pair, check_size, is_row, never_falls
from bellcopies.errors import BadBells, BadLift, TooMany
from bellcopies.stairs import bells_needed, entry_before, smallest_bells


def check_ring_bells(size, bells):
    """Raise BadBells unless these are ring bells for so many people."""
    if not is_row(bells, 0, 60, 1, size):
        raise BadBells("ring bells are a tuple of at most 60 integers from 1 to the size")


def check_two_ring_bells(size, one, other):
    """Raise an error unless these are a size and two rows of ring bells."""
    check_size(size)
    check_ring_bells(size, one)
    check_ring_bells(size, other)


def is_lift(value):
    """Whether a value is a lift."""
    if not is_row(value, 2, 8, -200, 8) or not never_falls(value):
        return False
    if value[-1] > value[0] + len(value):
        return False
    return all(entry <= place for place, entry in enumerate(value, 1))


def check_lift(lift):
    """Raise BadLift unless this is a lift."""
    if not is_lift(lift):
        raise BadLift("a lift never falls, has no entry above its place and spans at most a turn")


def behind_in_ring(row, bell):
    """The lift behind one ring bell more."""
    return row[:bell - 1] + (entry_before(row, bell),) + row[bell:]


def lifted(size, bells):
    """The lift of ring bells."""
    row = at_first(size)
    for bell in bells:
        row = behind_in_ring(row, bell)
    return row


def people_of(row):
    """The people whose signs come from the places that a lift names."""
    size = len(row)
    return tuple([(place - 1) % size + 1 for place in row])


def comes(row):
    """Whether some ring bells have this lift."""
    if row == at_first(len(row)):
        return True
    return any(entry_before(row, place) == entry for place, entry in enumerate(row, 1))


def lift(size, bells):
    """For each person, the place of the unrolled ring from which the sign has come."""
    check_size(size)
    check_ring_bells(size, bells)
    return lifted(size, bells)


def lift_count(lift):
    """The least number of ring bells with a lift, None if none have it."""
    check_lift(lift)
    return bells_needed(lift) if comes(lift) else None


def lift_bells(lift):
    """The smallest of the shortest rows of ring bells with a lift, None if there is none."""
    check_lift(lift)
    if not comes(lift):
        return None
    if bells_needed(lift) > 60:
        raise TooMany(60)
    return smallest_bells(lift, {})


def lifts_within(size, many):
    """The number of lifts that rows of at most so many ring bells have."""
    check_size(size)
    check_count(many, 8)
    level = [at_first(size)]
    seen = set(level)
    for _ in range(many):
        following = []
        for row in level:
            for bell in range(1, size + 1):
                new = behind_in_ring(row, bell)
                if new not in seen:
                    seen.add(new)
                    following.append(new)
        level = following
    return len(seen)


def lift_after(one, other):
    """The lift of ring bells of the first lift and then of the second."""
    check_lift(one)
    check_lift(other)
    check_pair(one, other)
    size = len(one)
    row = []
    for place in other:
        turns, at = divmod(place - 1, size)
        row.append(one[at] + turns * size)
    if min(row) < -200:
        raise BadLift("the lift of both has an entry below -200")
    return tuple(row)


def same_in_ring(size, one, other):
    """Whether two rows of ring bells have the same lift."""
    check_two_ring_bells(size, one, other)
    return lifted(size, one) == lifted(size, other)


def same_signs(size, one, other):
    """Whether each person says the same person's sign behind both rows of ring bells."""
    check_two_ring_bells(size, one, other)
    return people_of(lifted(size, one)) == people_of(lifted(size, other))


def turns_back(size, bells):
    """For each person, the number of whole turns that the sign has come."""
    check_size(size)
    check_ring_bells(size, bells)
    return tuple([(place - entry) // size for place, entry in enumerate(lifted(size, bells), 1)])


def ring_winner(size, bells):
    """The person whose sign all say in the end, None if they say unlike ones."""
    check_size(size)
    check_ring_bells(size, bells)
    people = people_of(lifted(size, bells))
    return people[0] if people == people[:1] * size else None
