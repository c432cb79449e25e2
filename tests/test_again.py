"""Point 25: logs again and again, and logs whose entries can be exchanged."""

import itertools
import random
import unittest

from bellcopies.again import kept_signs, log_classes, log_power, log_rest, sorted_log
from tests.support import arcs_among, people_of, shortest_logs, slow_says, small_webs, some_webs

FULL = (4, tuple(arcs_among(4)))
CIRCLE = (6, tuple((person, person % 6 + 1) for person in range(1, 7)))
LETTERS = (6, tuple((source, taker) for source in (1, 2, 3) for taker in (4, 5, 6)) + ((4, 5), (5, 6), (6, 4)))


def with_logs(webs, seed, longest):
    """The webs with a few logs by chance, the empty one and a longest one among them."""
    chance = random.Random(seed)
    for web in webs:
        for many in (0, 1, chance.randint(2, 6), chance.randint(2, 6), chance.randint(7, max(longest, 7)), longest):
            if web[1] or not many:
                yield web, tuple(chance.randrange(len(web[1])) for _ in range(many))


def cases():
    yield from with_logs(itertools.chain(*(small_webs(size) for size in (1, 2, 3))), 130, 6)
    yield from with_logs(some_webs(131, 150, (4, 5, 6)), 132, 60)
    yield from with_logs([FULL, CIRCLE, LETTERS] * 5, 133, 60)
    for _, log, _ in shortest_logs(FULL, people_of(FULL)).values():
        yield FULL, log


def rows_behind(web, log, times):
    """The rows behind each number of times, entry by entry."""
    rows = [people_of(web)]
    for _ in range(times):
        rows.append(slow_says(web, rows[-1], log))
    return rows


def in_touch(web, one, other):
    """Whether one entry changes a person whom the other changes or hears."""
    return web[1][one][1] in web[1][other] or web[1][other][1] in web[1][one]


def all_exchanged(web, log):
    """All logs that come from a log by exchanging neighbors."""
    found = {log}
    waiting = [log]
    while waiting:
        now = waiting.pop()
        for at in range(len(now) - 1):
            if not in_touch(web, now[at], now[at + 1]):
                new = now[:at] + (now[at + 1], now[at]) + now[at + 2:]
                if new not in found:
                    found.add(new)
                    waiting.append(new)
    return found


def can_be_smaller(web, log):
    """Whether some entry can come to stand before a greater one."""
    for at, index in enumerate(log):
        for later in range(at + 1, len(log)):
            if log[later] < index and not any(in_touch(web, log[later], other) for other in log[at:later]):
                return True
    return False


class LogPower(unittest.TestCase):
    def test_entry_by_entry(self):
        for web, log in cases():
            rows = rows_behind(web, log, 100)
            for many in (0, 1, 2, 3, 5, 99, 100):
                self.assertEqual(log_power(web, log, many), rows[many], (web, log, many))

    def test_each_number_of_times(self):
        # Each time all but one take over from the next person, and the sign of this one is kept aside.
        web = (4, ((1, 4), (2, 1), (3, 2), (4, 3)))
        rows = rows_behind(web, (0, 1, 2, 3), 100)
        self.assertEqual([log_power(web, (0, 1, 2, 3), many) for many in range(101)], rows)

    def test_edges(self):
        self.assertEqual(log_power((1, ()), (), 0), (1,))
        self.assertEqual(log_power((1, ()), (), 100), (1,))
        self.assertEqual(log_power((6, ()), (), 100), (1, 2, 3, 4, 5, 6))
        self.assertEqual(log_power((2, ((2, 1),)), (0,) * 60, 0), (1, 2))
        # Here there are 6000 entries in all.
        self.assertEqual(log_power((2, ((2, 1),)), (0,) * 60, 100), (2, 2))
        path = (6, tuple((person, person + 1) for person in range(1, 6)))
        self.assertEqual(log_power(path, (4, 3, 2, 1, 0), 1), (1, 1, 2, 3, 4, 5))
        self.assertEqual(log_power(path, (4, 3, 2, 1, 0), 4), (1, 1, 1, 1, 1, 2))


class LogRest(unittest.TestCase):
    def test_least_numbers(self):
        found = set()
        for web, log in cases():
            rows = rows_behind(web, log, 30)
            pairs = [
                (before, length) for before in range(15) for length in range(1, 15)
                if rows[before] == rows[before + length]
            ]
            expected = (min(before for before, _ in pairs), min(length for _, length in pairs))
            self.assertIn(expected, pairs)
            self.assertEqual(log_rest(web, log), expected, (web, log))
            found.add(expected)
        self.assertTrue({(0, 1), (1, 1), (2, 1), (3, 1), (1, 2), (2, 2), (1, 3)} <= found, found)

    def test_edges(self):
        self.assertEqual(log_rest((1, ()), ()), (0, 1))
        self.assertEqual(log_rest((6, ()), ()), (0, 1))
        self.assertEqual(log_rest((2, ((1, 2),)), ()), (0, 1))
        self.assertEqual(log_rest((2, ((1, 2),)), (0,)), (1, 1))
        self.assertEqual(log_rest((2, ((1, 2),)), (0,) * 60), (1, 1))
        path = (6, tuple((person, person + 1) for person in range(1, 6)))
        self.assertEqual(log_rest(path, (4, 3, 2, 1, 0)), (5, 1))

    def test_signs_that_change_places_for_ever(self):
        # Person 1 keeps aside what person 2 says, while the others go round.
        web = (4, ((2, 1), (3, 2), (4, 3), (1, 4)))
        self.assertEqual(log_rest(web, (0, 1, 2, 3)), (1, 3))
        web = (6, ((2, 1), (3, 2), (4, 3), (5, 4), (6, 5), (1, 6)))
        self.assertEqual(log_rest(web, (0, 1, 2, 3, 4, 5)), (1, 5))


class KeptSigns(unittest.TestCase):
    def test_each_number_of_times(self):
        found = set()
        for web, log in cases():
            rows = rows_behind(web, log, 40)
            expected = tuple(person for person in people_of(web) if all(person in row for row in rows))
            self.assertEqual(kept_signs(web, log), expected, (web, log))
            found.add(len(expected))
        self.assertEqual(found, {1, 2, 3, 4, 5, 6})

    def test_edges(self):
        self.assertEqual(kept_signs((1, ()), ()), (1,))
        self.assertEqual(kept_signs((6, ()), ()), (1, 2, 3, 4, 5, 6))
        self.assertEqual(kept_signs((2, ((2, 1),)), (0,) * 60), (2,))
        # Said behind one time, but not behind two.
        self.assertEqual(kept_signs((3, ((1, 2), (2, 3))), (1, 0)), (1,))
        web = (4, ((2, 1), (3, 2), (4, 3), (1, 4)))
        self.assertEqual(kept_signs(web, (0, 1, 2, 3)), (2, 3, 4))


class SortedLog(unittest.TestCase):
    def test_out_of_all_exchanges(self):
        changed = 0
        for web, log in with_logs(some_webs(134, 200, (2, 3, 4, 5, 6)), 135, 7):
            value = sorted_log(web, log)
            self.assertEqual(value, min(all_exchanged(web, log)), (web, log))
            changed += value != log
        self.assertGreater(changed, 100)

    def test_long_logs(self):
        for web, log in cases():
            value = sorted_log(web, log)
            # What comes by exchanges keeps the order of any two entries in touch, and what keeps it comes so.
            self.assertEqual(sorted(value), sorted(log))
            for one, other in itertools.combinations(range(len(web[1])), 2):
                if in_touch(web, one, other):
                    pair = (one, other)
                    self.assertEqual([at for at in value if at in pair], [at for at in log if at in pair])
            self.assertFalse(can_be_smaller(web, value), (web, log, value))
            self.assertEqual(sorted_log(web, value), value)
            self.assertEqual(slow_says(web, people_of(web), value), slow_says(web, people_of(web), log))

    def test_edges(self):
        self.assertEqual(sorted_log((1, ()), ()), ())
        self.assertEqual(sorted_log((6, ()), ()), ())
        self.assertEqual(sorted_log((4, ((1, 2), (3, 4))), (1, 0) * 30), (0,) * 30 + (1,) * 30)
        self.assertEqual(sorted_log((3, ((1, 2), (2, 3))), (1, 0) * 30), (1, 0) * 30)

    def test_who_is_changed_or_heard(self):
        # Two may hear the same person, but nobody is changed whom another changes or hears.
        self.assertEqual(sorted_log((3, ((1, 2), (1, 3))), (1, 0)), (0, 1))
        self.assertEqual(sorted_log((3, ((1, 3), (2, 3))), (1, 0)), (1, 0))
        self.assertEqual(sorted_log((3, ((1, 2), (3, 1))), (1, 0)), (1, 0))
        self.assertEqual(sorted_log((3, ((3, 1), (1, 2))), (1, 0)), (1, 0))
        self.assertEqual(sorted_log((2, ((1, 2), (2, 1))), (1, 0)), (1, 0))

    def test_exchanges_again_and_again(self):
        web = (6, ((1, 2), (3, 4), (5, 6)))
        self.assertEqual(sorted_log(web, (2, 1, 0)), (0, 1, 2))
        self.assertEqual(sorted_log(web, (2, 1, 0, 2, 1, 0)), (0, 0, 1, 1, 2, 2))
        # The entry that could be first stands behind one that holds it.
        self.assertEqual(sorted_log((5, ((1, 2), (3, 4), (2, 5))), (1, 2, 0)), (1, 2, 0))


class LogClasses(unittest.TestCase):
    def test_out_of_all_logs(self):
        webs = itertools.chain(*(small_webs(size) for size in (1, 2, 3)), some_webs(136, 60, (4, 5, 6)))
        for web in webs:
            for many in range(6):
                if len(web[1]) ** many < 1000:
                    logs = itertools.product(range(len(web[1])), repeat=many)
                    expected = len({min(all_exchanged(web, log)) for log in logs})
                    self.assertEqual(log_classes(web, many), expected, (web, many))

    def test_twelve_arcs(self):
        for web in (FULL, LETTERS, next(web for web in some_webs(137, 99, (6,)) if len(web[1]) == 12)):
            for many in range(5):
                logs = itertools.product(range(12), repeat=many)
                self.assertEqual(log_classes(web, many), sum(not can_be_smaller(web, log) for log in logs))

    def test_five_entries(self):
        # Two arcs apart: a class is how many of each there are.
        self.assertEqual([log_classes((4, ((1, 2), (3, 4))), many) for many in range(6)], [1, 2, 3, 4, 5, 6])
        self.assertEqual([log_classes((6, ((1, 2), (3, 4), (5, 6))), many) for many in range(6)], [1, 3, 6, 10, 15, 21])
        star = (6, tuple((1, other) for other in range(2, 7)))
        self.assertEqual([log_classes(star, many) for many in range(6)], [1, 5, 15, 35, 70, 126])
        # Any two entries are in touch, so that each log is a class of its own.
        to_one = (6, tuple((other, 1) for other in range(2, 7)))
        self.assertEqual([log_classes(to_one, many) for many in range(6)], [1, 5, 25, 125, 625, 3125])

    def test_edges(self):
        for size in (1, 2, 6):
            self.assertEqual([log_classes((size, ()), many) for many in range(6)], [1, 0, 0, 0, 0, 0])
