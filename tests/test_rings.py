"""Points 11 and 12: rings."""

import itertools
import random
import unittest

from bellcopies.errors import BadLift, TooMany
from bellcopies.rings import (
    lift, lift_after, lift_bells, lift_count, lifts_within, ring_winner, same_in_ring, same_signs, turns_back,
)
from tests.support import error_of, shortest_words


def slow_lift(size, bells):
    """What `lift` is to return: each bell also rings a turn before and a turn on, and so forth."""
    turns = len(bells) + 1
    says = {place: place for place in range(1 - turns * size, size + 1)}
    for bell in bells:
        before = dict(says)
        for turn in range(turns):
            place = bell - turn * size
            if place - 1 in before:
                says[place] = before[place - 1]
    return tuple(says[person] for person in range(1, size + 1))


def slow_people(size, bells):
    """Whose sign each says behind ring bells, without lifts."""
    says = list(range(1, size + 1))
    for bell in bells:
        says[bell - 1] = says[bell - 2]
    return tuple(says)


def behind_ring_bell(row, bell):
    entries = list(row)
    entries[bell - 1] = entries[-1] - len(row) if bell == 1 else entries[bell - 2]
    return tuple(entries)


def shortest_lifts(size, longest):
    return shortest_words(tuple(range(1, size + 1)), range(1, size + 1), behind_ring_bell, longest)


def some_bells(size, longest):
    for many in range(longest + 1):
        for bells in itertools.product(range(1, size + 1), repeat=many):
            yield bells


def needed_bells(row):
    """The sum of the document, over one turn of the unrolled ring."""
    size = len(row)
    unrolled = [entry + turn * size for turn in range(-60, 61) for entry in row]
    places = {number: at + 1 - 60 * size for at, number in enumerate(unrolled)}
    return sum(last - number for number, last in places.items() if 1 <= last <= size)


class Lift(unittest.TestCase):
    def test_short_rows(self):
        for size, longest in ((2, 6), (3, 5), (4, 4)):
            for bells in some_bells(size, longest):
                self.assertEqual(lift(size, bells), slow_lift(size, bells))

    def test_edges(self):
        self.assertEqual(lift(2, ()), (1, 2))
        self.assertEqual(lift(8, (1,)), (0, 2, 3, 4, 5, 6, 7, 8))
        self.assertEqual(lift(2, (1, 2) * 30), (-58, -58))
        bells = (1, 2, 3, 4, 5, 6, 7, 8) * 7 + (1, 2, 3, 4)
        self.assertEqual(len(bells), 60)
        self.assertEqual(lift(8, bells), slow_lift(8, bells))

    def test_people_say_what_the_lift_tells(self):
        for bells in some_bells(3, 5):
            people = slow_people(3, bells)
            for entry, person in zip(lift(3, bells), people):
                self.assertEqual((entry - person) % 3, 0)


class LiftCount(unittest.TestCase):
    def test_searched_lifts(self):
        for size, longest in ((2, 60), (3, 60), (4, 30), (5, 16), (6, 10), (7, 8), (8, 7)):
            for row, (length, _, _) in shortest_lifts(size, longest).items():
                self.assertEqual(lift_count(row), length)

    def test_lifts_that_do_not_come(self):
        longest = 14
        for size in (2, 3, 4):
            known = shortest_lifts(size, longest)
            for row in itertools.product(range(-8, size + 1), repeat=size):
                rises = all(row[at] <= row[at + 1] for at in range(size - 1)) and row[-1] <= row[0] + size
                if rises and all(entry <= place for place, entry in enumerate(row, 1)):
                    if row in known:
                        self.assertEqual(lift_count(row), known[row][0])
                    elif needed_bells(row) <= longest:
                        self.assertIsNone(lift_count(row))
                        self.assertIsNone(lift_bells(row))

    def test_entries_far_down(self):
        self.assertEqual(lift_count((-200, -200)), 202)
        self.assertEqual(lift_count((-200,) * 8), 208)
        self.assertEqual(lift_count((-200, -198)), 201)
        self.assertIsNone(lift_count((-200, -199)))
        self.assertIsNone(lift_count((-200, -199, -198)))
        self.assertEqual(lift_count((-200, -200, -199)), 202 + 202)
        self.assertEqual(lift_count((-200, -199, -197)), 201 + 201)

    def test_first_lift(self):
        for size in range(2, 9):
            first = tuple(range(1, size + 1))
            self.assertEqual((lift_count(first), lift_bells(first)), (0, ()))
            below = tuple(entry - 1 for entry in first)
            self.assertEqual((lift_count(below), lift_bells(below)), (None, None))


class LiftBells(unittest.TestCase):
    def test_searched_lifts(self):
        for size, longest in ((2, 60), (3, 60), (4, 30), (5, 16), (6, 10), (7, 8), (8, 7)):
            for row, (length, bells, _) in shortest_lifts(size, longest).items():
                self.assertEqual(lift_bells(row), bells)

    def test_out_of_all_short_rows(self):
        for size, longest in ((2, 8), (3, 7), (4, 6)):
            found = {}
            for bells in some_bells(size, longest):
                found.setdefault(slow_lift(size, bells), bells)
            for row, bells in found.items():
                self.assertEqual(lift_bells(row), bells)

    def test_sixty_bells_and_one_more(self):
        known = shortest_lifts(2, 61)
        lengths = {60: 0, 61: 0}
        for row, (length, bells, _) in known.items():
            if length == 60:
                self.assertEqual((len(lift_bells(row)), lift_bells(row)), (60, bells))
            if length == 61:
                error = error_of(lift_bells, (row,))
                self.assertIs(type(error), TooMany)
                self.assertEqual(error.most, 60)
            if length in lengths:
                lengths[length] += 1
        self.assertEqual(lengths, {60: 2, 61: 2})

    def test_long_rows_of_eight_people(self):
        chance = random.Random(11)
        for _ in range(60):
            bells = tuple(chance.randint(1, 8) for _ in range(chance.randint(30, 60)))
            row = slow_lift(8, bells)
            found = lift_bells(row)
            self.assertEqual((slow_lift(8, found), len(found)), (row, lift_count(row)))

    def test_more_than_sixty(self):
        for row in ((-200, -200), (-200,) * 8, (-200, -198), (-53,) * 8):
            self.assertGreater(lift_count(row), 60)
            self.assertIs(type(error_of(lift_bells, (row,))), TooMany)
        self.assertEqual(len(lift_bells((-52,) * 8)), 60)

    def test_none_rather_than_too_many(self):
        self.assertIsNone(lift_bells((-200, -199)))
        self.assertIsNone(lift_bells((-200, -199, -198, -197, -196, -195, -194, -193)))

    def test_not_a_lift_rather_than_too_many(self):
        self.assertIs(type(error_of(lift_bells, ((-201,) * 8,))), BadLift)
        self.assertIs(type(error_of(lift_bells, ((-200, -200, -196),))), BadLift)


class LiftsWithin(unittest.TestCase):
    def test_out_of_all_rows(self):
        for size, longest in ((2, 8), (3, 7), (4, 6), (5, 4)):
            seen = set()
            for many in range(longest + 1):
                for bells in itertools.product(range(1, size + 1), repeat=many):
                    seen.add(slow_lift(size, bells))
                self.assertEqual(lifts_within(size, many), len(seen))

    def test_every_size_and_number(self):
        for size in range(2, 9):
            lengths = [length for length, _, _ in shortest_lifts(size, 8).values()]
            for many in range(9):
                self.assertEqual(lifts_within(size, many), sum(1 for length in lengths if length <= many))


class LiftAfter(unittest.TestCase):
    def test_is_what_both_rows_of_bells_make(self):
        for size, longest in ((2, 4), (3, 3), (4, 2)):
            rows = list(some_bells(size, longest))
            for one, other in itertools.product(rows, rows):
                self.assertEqual(lift_after(lift(size, one), lift(size, other)), slow_lift(size, one + other))

    def test_long_rows(self):
        chance = random.Random(12)
        for _ in range(200):
            size = chance.randint(2, 8)
            one, other = ([chance.randint(1, size) for _ in range(30)] for _ in range(2))
            found = lift_after(lift(size, tuple(one)), lift(size, tuple(other)))
            self.assertEqual(found, slow_lift(size, one + other))

    def test_lifts_that_no_bells_have(self):
        self.assertEqual(lift_after((0, 1), (0, 1)), (-1, 0))
        self.assertEqual(lift_after((0, 1, 2), (1, 1, 3)), (0, 0, 2))

    def test_entries_at_the_limit(self):
        self.assertEqual(lift_after((-99, -98), (-99, -98)), (-199, -198))
        self.assertEqual(lift_after((-100, -99), (-99, -98)), (-200, -199))
        self.assertIs(type(error_of(lift_after, ((-100, -99), (-100, -99)))), BadLift)
        self.assertEqual(lift_after((1, 2), (-200, -200)), (-200, -200))
        self.assertEqual(lift_after((-200, -200), (1, 2)), (-200, -200))
        self.assertIs(type(error_of(lift_after, ((0, 1), (-200, -200)))), BadLift)
        self.assertIs(type(error_of(lift_after, ((-200,) * 8, (0,) * 8))), BadLift)
        self.assertIs(type(error_of(lift_after, ((-200,) * 8, (-200,) * 8))), BadLift)


class Signs(unittest.TestCase):
    def test_pairs_of_short_rows(self):
        for size, longest in ((2, 5), (3, 3), (4, 2)):
            rows = list(some_bells(size, longest))
            for one, other in itertools.product(rows, rows):
                self.assertIs(same_in_ring(size, one, other), slow_lift(size, one) == slow_lift(size, other))
                self.assertIs(same_signs(size, one, other), slow_people(size, one) == slow_people(size, other))

    def test_same_signs_need_not_be_the_same_lift(self):
        self.assertIs(same_signs(2, (1, 2, 1), (1,)), True)
        self.assertIs(same_in_ring(2, (1, 2, 1), (1,)), False)

    def test_turns_back(self):
        for size, longest in ((2, 6), (3, 5), (4, 4)):
            for bells in some_bells(size, longest):
                steps = [person - entry for person, entry in enumerate(slow_lift(size, bells), 1)]
                self.assertEqual(turns_back(size, bells), tuple(many // size for many in steps))

    def test_turns_of_long_rows(self):
        self.assertEqual(turns_back(8, ()), (0,) * 8)
        self.assertEqual(turns_back(2, (1, 2) * 30), (29, 30))
        self.assertEqual(turns_back(8, (1,)), (0,) * 8)
        self.assertEqual(turns_back(8, (1, 2, 3, 4, 5, 6, 7, 8)), (0,) * 7 + (1,))

    def test_ring_winner(self):
        for size, longest in ((2, 6), (3, 6), (4, 5)):
            for bells in some_bells(size, longest):
                people = slow_people(size, bells)
                expected = people[0] if len(set(people)) == 1 else None
                self.assertEqual(ring_winner(size, bells), expected)

    def test_winner_of_the_greatest_size(self):
        self.assertEqual(ring_winner(8, (1, 2, 3, 4, 5, 6, 7)), 8)
        self.assertEqual(ring_winner(8, (6, 7, 8, 1, 2, 3, 4)), 5)
        self.assertIsNone(ring_winner(8, (1, 2, 3, 4, 5, 6)))
        self.assertEqual(ring_winner(2, (1, 2) * 30), 2)
