"""Point 1: the named error for each value that is not allowed, whatever it is and wherever it stands."""

import copy
import unittest

from bellcopies import (
    again, alike, beats, between, cheapest, choirs, climbs, drift, goals, groups, hands, hearings, hindering, keeping,
    moves, odds, order, patterns, paying, products, rings, rounds, rows, shares, stairs, starts, streams, times, twins,
    webs, webtext, winning,
)
from bellcopies.errors import BellError, TooMany
from tests import kinds
from tests.support import error_of, strange_values
from tests.test_interface import INTERFACE

# What may stand last in a call of a function whose name begins with `shows`: nothing is bad there.
ANYTHING = (None, ())


def choir_says(web):
    """What a new choir says, which is the same at each call."""
    return choirs.Choir(web).says()


def choir_takes(web, index):
    """What a new choir says behind an arc."""
    return choirs.Choir(web).take(index)


def choir_speaks(web, person, sign):
    """What comes of a person of a new choir saying a sign of its own."""
    return choirs.Choir(web).speak(person, sign)


CALLS = (
    (rows.ring, kinds.SIZE, kinds.BELLS),
    (rows.said, kinds.SIGNS, kinds.BELLS),
    (rows.sayings, kinds.SIGNS, kinds.BELLS),
    (climbs.climb, kinds.SIZE, kinds.BELLS, kinds.FIRST, kinds.LAST),
    (climbs.shows_climb, kinds.SIZE, kinds.BELLS, kinds.FIRST, kinds.LAST, ANYTHING),
    (stairs.stairs, kinds.SIZE),
    (stairs.stair_count, kinds.SIZE),
    (stairs.bells_of, kinds.STAIR),
    (stairs.bell_count, kinds.STAIR),
    (stairs.all_bells, kinds.STAIR),
    (stairs.row_count, kinds.STAIR),
    (alike.same, kinds.SIZE, kinds.BELLS, kinds.BELLS),
    (alike.telling, kinds.SIZE, kinds.BELLS, kinds.BELLS),
    (alike.shows_telling, kinds.SIZE, kinds.BELLS, kinds.BELLS, ANYTHING),
    (alike.shortened, kinds.SIZE, kinds.BELLS),
    (alike.needless, kinds.SIZE, kinds.BELLS),
    (alike.core, kinds.SIZE, kinds.BELLS),
    (alike.shows_core, kinds.SIZE, kinds.BELLS, ANYTHING),
    (products.combined, kinds.STAIR, kinds.SECOND_STAIR),
    (products.power, kinds.STAIR, kinds.count_to(100)),
    (products.rest_of, kinds.STAIR),
    (products.is_steady, kinds.STAIR),
    (products.steady_stairs, kinds.SIZE),
    (products.steady_count, kinds.SIZE),
    (products.goes_on, kinds.STAIR, kinds.SECOND_STAIR),
    (products.goes_before, kinds.STAIR, kinds.SECOND_STAIR),
    (order.is_below, kinds.STAIR, kinds.SECOND_STAIR),
    (order.meet, kinds.STAIR, kinds.SECOND_STAIR),
    (order.join, kinds.STAIR, kinds.SECOND_STAIR),
    (order.rank, kinds.STAIR),
    (order.rank_counts, kinds.SIZE),
    (order.covers, kinds.STAIR),
    (order.chain_count, kinds.STAIR, kinds.SECOND_STAIR),
    (rounds.rounds, kinds.STAIR),
    (rounds.round_plan, kinds.STAIR),
    (rounds.shows_rounds, kinds.STAIR, ANYTHING),
    (rounds.in_reach, kinds.STAIR, kinds.count_to(100)),
    (moves.ring_moves, kinds.SIZE, kinds.MOVES),
    (moves.rising_count, kinds.SIZE),
    (moves.rising_rows, kinds.SIZE),
    (moves.move_count, kinds.RISING),
    (moves.moves_of, kinds.RISING),
    (moves.mirrored, kinds.RISING),
    (moves.joined_moves, kinds.RISING, kinds.SECOND_RISING),
    (moves.move_rest, kinds.RISING),
    (moves.blocks, kinds.RISING),
    (moves.wins, kinds.SIZE, kinds.MOVES, kinds.PERSON),
    (moves.win_count, kinds.SIZE, kinds.PERSON),
    (moves.win_moves, kinds.SIZE, kinds.PERSON),
    (rings.lift, kinds.SIZE, kinds.RING_BELLS),
    (rings.lift_count, kinds.LIFT),
    (rings.lift_bells, kinds.LIFT),
    (rings.lifts_within, kinds.SIZE, kinds.count_to(8)),
    (rings.lift_after, kinds.LIFT, kinds.SECOND_LIFT),
    (rings.same_in_ring, kinds.SIZE, kinds.RING_BELLS, kinds.RING_BELLS),
    (rings.same_signs, kinds.SIZE, kinds.RING_BELLS, kinds.RING_BELLS),
    (rings.turns_back, kinds.SIZE, kinds.RING_BELLS),
    (rings.ring_winner, kinds.SIZE, kinds.RING_BELLS),
    (webs.web_ring, kinds.WEB, kinds.LOG),
    (webs.web_said, kinds.WEB, kinds.WEB_SIGNS, kinds.LOG),
    (webs.trace, kinds.WEB, kinds.LOG, kinds.PERSON),
    (webs.left_over, kinds.WEB, kinds.LOG),
    (webs.needless_entries, kinds.WEB, kinds.LOG),
    (goals.log_to, kinds.WEB, kinds.goal_of(3)),
    (goals.reached_count, kinds.WEB),
    (goals.log_count, kinds.WEB, kinds.goal_of(3), kinds.count_to(100)),
    (winning.winners, kinds.WEB),
    (winning.win_log, kinds.WEB, kinds.PERSON),
    (winning.springs, kinds.WEB),
    (winning.least_left, kinds.WEB),
    (winning.closed_count, kinds.WEB),
    (winning.parted, kinds.WEB),
    (winning.shows_parted, kinds.WEB, ANYTHING),
    (cheapest.cheap_win, kinds.WEB, kinds.prices_of(2), kinds.PERSON),
    (cheapest.cheap_paper, kinds.WEB, kinds.prices_of(2), kinds.PERSON),
    (cheapest.shows_cheap_win, kinds.WEB, kinds.prices_of(2), kinds.PERSON, ANYTHING),
    (cheapest.shows_cheap_paper, kinds.WEB, kinds.prices_of(2), kinds.PERSON, ANYTHING),
    (beats.beat_win, kinds.WEB, kinds.PERSON),
    (beats.beats_to, kinds.WEB, kinds.goal_of(3)),
    (hearings.fitting, kinds.hearings_of(3)),
    (hearings.first_unfit, kinds.hearings_of(3)),
    (hearings.surely, kinds.hearings_of(3)),
    (starts.tells_all, kinds.SIZE, kinds.starts_of(3)),
    (starts.not_told, kinds.SIZE, kinds.starts_of(3)),
    (starts.shows_not_told, kinds.SIZE, kinds.starts_of(3), ANYTHING),
    (starts.fewest_starts, kinds.SIZE, kinds.KINDS),
    (starts.best_starts, kinds.SIZE, kinds.KINDS),
    (patterns.web_fitting, kinds.WEB, kinds.web_hearings(3)),
    (patterns.patterns, kinds.WEB, kinds.WEB_SIGNS),
    (patterns.pattern_log, kinds.WEB, kinds.WEB_SIGNS, kinds.WEB_SIGNS),
    (odds.stair_chances, kinds.SIZE, kinds.odds_of(2), kinds.count_to(8)),
    (odds.mean_wait, kinds.SIZE, kinds.odds_of(2), kinds.PERSON),
    (odds.visit_chance, kinds.SIZE, kinds.odds_of(2), kinds.stair_of(3)),
    (drift.win_chances, kinds.WEB, kinds.odds_of(2)),
    (drift.still_said, kinds.WEB, kinds.odds_of(2), kinds.count_to(8)),
    (drift.mean_agreed, kinds.WEB, kinds.odds_of(2)),
    (times.earliest, kinds.WEB, kinds.times_of(2), kinds.PERSON),
    (times.latest_start, kinds.WEB, kinds.times_of(2), kinds.PERSON),
    (times.timed_path, kinds.WEB, kinds.times_of(2), kinds.PERSON, kinds.PERSON),
    (times.shows_timed_path, kinds.WEB, kinds.times_of(2), kinds.PERSON, kinds.PERSON, ANYTHING),
    (hindering.hinder, kinds.WEB, kinds.PERSON, kinds.UNLIKE),
    (hindering.ways_apart, kinds.WEB, kinds.PERSON, kinds.UNLIKE),
    (hindering.shows_hinder, kinds.WEB, kinds.PERSON, kinds.UNLIKE, ANYTHING),
    (hindering.shows_ways_apart, kinds.WEB, kinds.PERSON, kinds.UNLIKE, ANYTHING),
    (again.log_power, kinds.WEB, kinds.LOG, kinds.count_to(100)),
    (again.log_rest, kinds.WEB, kinds.LOG),
    (again.kept_signs, kinds.WEB, kinds.LOG),
    (again.sorted_log, kinds.WEB, kinds.LOG),
    (again.log_classes, kinds.WEB, kinds.count_to(5)),
    (hands.forced_win, kinds.WEB, kinds.PERSON, kinds.count_to(60)),
    (webtext.write_web, kinds.WEB),
    (webtext.read_web, kinds.TEXT),
    (choir_says, kinds.WEB),
    (choir_takes, kinds.WEB, kinds.ARC),
    (choir_speaks, kinds.WEB, kinds.PERSON, kinds.SIGN),
    (groups.closed_sets, kinds.WEB),
    (groups.closure, kinds.WEB, kinds.GROUP),
    (groups.inside, kinds.WEB, kinds.GROUP),
    (groups.spreads, kinds.WEB, kinds.LOG),
    (groups.cheap_agreement, kinds.WEB, kinds.prices_of(2)),
    (groups.shows_agreement, kinds.WEB, kinds.prices_of(2), ANYTHING),
    (streams.cheap_hinder, kinds.WEB, kinds.prices_of(2), kinds.PERSON, kinds.UNLIKE),
    (streams.streams, kinds.WEB, kinds.prices_of(2), kinds.PERSON, kinds.UNLIKE),
    (streams.shows_cheap_hinder, kinds.WEB, kinds.prices_of(2), kinds.PERSON, kinds.UNLIKE, ANYTHING),
    (streams.shows_streams, kinds.WEB, kinds.prices_of(2), kinds.PERSON, kinds.UNLIKE, ANYTHING),
    (keeping.heard_sets, kinds.WEB, kinds.LOG),
    (keeping.full_log, kinds.WEB),
    (keeping.full_count, kinds.WEB),
    (twins.tells_goals, kinds.WEB, kinds.starts_of(3)),
    (twins.goal_twins, kinds.WEB, kinds.starts_of(3)),
    (twins.shows_goal_twins, kinds.WEB, kinds.starts_of(3), ANYTHING),
    (paying.cheap_moves, kinds.SIZE, kinds.prices_of(4), kinds.rising_of(3)),
    (paying.shows_cheap_moves, kinds.SIZE, kinds.prices_of(4), kinds.rising_of(3), ANYTHING),
    (paying.cheap_goal, kinds.WEB, kinds.prices_of(2), kinds.goal_of(3)),
    (paying.shows_cheap_goal, kinds.WEB, kinds.prices_of(2), kinds.goal_of(3), ANYTHING),
    (between.between_count, kinds.STAIR, kinds.SECOND_STAIR),
    (between.steady_below, kinds.STAIR),
    (between.steady_above, kinds.STAIR),
    (between.single, kinds.STAIR),
    (between.own, kinds.STAIR),
    (between.lost, kinds.STAIR),
    (shares.shares_for, kinds.WEB, kinds.CHANCES),
    (shares.shares_paper, kinds.WEB, kinds.CHANCES),
    (shares.evenest, kinds.WEB, kinds.CHANCES),
    (shares.shows_shares, kinds.WEB, kinds.CHANCES, ANYTHING),
    (shares.shows_shares_paper, kinds.WEB, kinds.CHANCES, ANYTHING),
    (shares.shows_evenest, kinds.WEB, kinds.CHANCES, ANYTHING),
)

# Functions, the most that they allow, and kinds whose good values are one more than that.
TOO_MANY = (
    (goals.log_to, 4, kinds.web_of(5), kinds.goal_of(5)),
    (goals.reached_count, 4, kinds.web_of(5)),
    (goals.log_count, 4, kinds.web_of(5), kinds.goal_of(5), kinds.count_to(100)),
    (beats.beats_to, 4, kinds.web_of(5), kinds.goal_of(5)),
    (hearings.fitting, 6, kinds.hearings_of(7)),
    (hearings.first_unfit, 6, kinds.hearings_of(7)),
    (hearings.surely, 6, kinds.hearings_of(7)),
    (starts.tells_all, 5, kinds.size_of(6), kinds.starts_of(6)),
    (starts.not_told, 5, kinds.size_of(6), kinds.starts_of(6)),
    (starts.shows_not_told, 5, kinds.size_of(6), kinds.starts_of(6), ANYTHING),
    (starts.fewest_starts, 4, kinds.size_of(5), kinds.KINDS),
    (starts.best_starts, 4, kinds.size_of(5), kinds.KINDS),
    (patterns.web_fitting, 4, kinds.web_of(5), kinds.web_hearings(5)),
    (patterns.patterns, 4, kinds.web_of(5), kinds.web_signs(5)),
    (patterns.pattern_log, 4, kinds.web_of(5), kinds.web_signs(5), kinds.web_signs(5)),
    (odds.stair_chances, 5, kinds.size_of(6), kinds.odds_of(5), kinds.count_to(8)),
    (odds.visit_chance, 5, kinds.size_of(6), kinds.odds_of(5), kinds.stair_of(6)),
    (drift.still_said, 4, kinds.web_of(5), kinds.odds_of(4), kinds.count_to(8)),
    (drift.mean_agreed, 3, kinds.web_of(4), kinds.odds_of(3)),
    (hands.forced_win, 3, kinds.web_of(4), kinds.person_of(4), kinds.count_to(60)),
    (keeping.full_log, 4, kinds.web_of(5)),
    (keeping.full_count, 4, kinds.web_of(5)),
    (twins.tells_goals, 4, kinds.web_of(5), kinds.starts_of(5)),
    (twins.goal_twins, 4, kinds.web_of(5), kinds.starts_of(5)),
    (twins.shows_goal_twins, 4, kinds.web_of(5), kinds.starts_of(5), ANYTHING),
    (paying.cheap_moves, 5, kinds.size_of(6), kinds.prices_of(10), kinds.rising_of(6)),
    (paying.shows_cheap_moves, 5, kinds.size_of(6), kinds.prices_of(10), kinds.rising_of(6), ANYTHING),
    (paying.cheap_goal, 4, kinds.web_of(5), kinds.prices_of(4), kinds.goal_of(5)),
    (paying.shows_cheap_goal, 4, kinds.web_of(5), kinds.prices_of(4), kinds.goal_of(5), ANYTHING),
)


class WrongInputs(unittest.TestCase):
    def check_error(self, function, arguments, error, fields):
        found = error_of(function, arguments)
        self.assertIs(type(found), error, (function.__name__, arguments, found))
        self.assertIsInstance(found, BellError)
        for name, content in fields.items():
            self.assertEqual(getattr(found, name), content, (function.__name__, arguments))

    def test_each_function_of_the_interface_is_called(self):
        called = {(function.__module__.rpartition(".")[2], function.__name__) for function, *_ in CALLS}
        listed = {(module, line.partition("(")[0]) for module, lines in INTERFACE.items() for line in lines}
        self.assertEqual(listed - called, {("choirs", "Choir")})

    def test_each_function_that_shows_takes_any_last_value(self):
        for function, *wanted in CALLS:
            self.assertEqual(function.__name__.startswith("shows"), wanted[-1] is ANYTHING, function.__name__)

    def test_good_arguments(self):
        for function, *wanted in CALLS:
            self.assertIsNone(error_of(function, [good for good, _ in wanted]), function.__name__)

    def test_each_bad_value_in_the_place_of_each_argument(self):
        for function, *wanted in CALLS:
            for at, (_, bads) in enumerate(wanted):
                for bad, error, fields in bads:
                    arguments = [good for good, _ in wanted]
                    arguments[at] = bad
                    self.check_error(function, arguments, error, fields)

    def test_of_two_bad_arguments_the_left_one_is_told(self):
        for function, *wanted in CALLS:
            for at in range(len(wanted)):
                for later in range(at + 1, len(wanted)):
                    for bad, error, fields in wanted[at][1]:
                        for bad_too, _, _ in wanted[later][1][::7]:
                            arguments = [good for good, _ in wanted]
                            arguments[at] = bad
                            arguments[later] = bad_too
                            self.check_error(function, arguments, error, fields)

    def test_too_many(self):
        for function, most, *wanted in TOO_MANY:
            arguments = [good for good, _ in wanted]
            self.check_error(function, arguments, TooMany, {"most": most})

    def test_too_many_comes_behind_each_other_error(self):
        for function, _, *wanted in TOO_MANY:
            for at, (_, bads) in enumerate(wanted):
                for bad, error, fields in bads:
                    arguments = [good for good, _ in wanted]
                    arguments[at] = bad
                    self.check_error(function, arguments, error, fields)

    def test_too_many_with_any_last_value_of_shows(self):
        for function, most, *wanted in TOO_MANY:
            if wanted[-1] is ANYTHING:
                for value in strange_values():
                    arguments = [good for good, _ in wanted[:-1]] + [value]
                    self.check_error(function, arguments, TooMany, {"most": most})

    def test_bad_arguments_beside_strange_last_values(self):
        for function, *wanted in CALLS:
            if wanted[-1] is ANYTHING:
                for at in range(len(wanted) - 1):
                    for bad, error, fields in wanted[at][1][::5]:
                        for value in strange_values():
                            arguments = [good for good, _ in wanted]
                            arguments[at] = bad
                            arguments[-1] = value
                            self.check_error(function, arguments, error, fields)

    def test_any_last_value_of_shows(self):
        for function, *wanted in CALLS:
            if wanted[-1] is ANYTHING:
                self.assertTrue(function.__name__.startswith("shows"))
                for value in strange_values():
                    arguments = [good for good, _ in wanted[:-1]]
                    self.assertIn(function(*arguments, value), (True, False))
                    self.assertIs(type(function(*arguments, value)), bool)

    def test_arguments_are_not_modified(self):
        for function, *wanted in CALLS:
            for at, (_, bads) in enumerate(wanted):
                for bad, _, _ in bads:
                    arguments = [good for good, _ in wanted]
                    arguments[at] = copy.deepcopy(bad)
                    error_of(function, arguments)
                    self.assertEqual(arguments[at], bad)
                    self.assertIs(type(arguments[at]), type(bad))

    def test_equal_calls_have_equal_answers(self):
        for function, *wanted in CALLS:
            arguments = [good for good, _ in wanted]
            self.assertEqual(function(*arguments), function(*arguments))
