"""The interface: each name under its heading, defined there, with its arguments."""

import importlib
import inspect
import unittest

INTERFACE = {
    "rows": ("ring(size, bells)", "said(signs, bells)", "sayings(signs, bells)"),
    "climbs": ("climb(size, bells, first, last)", "shows_climb(size, bells, first, last, value)"),
    "stairs": (
        "stairs(size)", "all_bells(stair)", "stair_count(size)", "bell_count(stair)", "row_count(stair)",
        "bells_of(stair)",
    ),
    "alike": (
        "same(size, one, other)", "shows_telling(size, one, other, value)", "shows_core(size, bells, value)",
        "telling(size, one, other)", "shortened(size, bells)", "needless(size, bells)", "core(size, bells)",
    ),
    "products": (
        "combined(one, other)", "power(stair, many)", "rest_of(stair)", "steady_count(size)", "is_steady(stair)",
        "steady_stairs(size)", "goes_on(one, other)", "goes_before(one, other)",
    ),
    "order": (
        "is_below(one, other)", "meet(one, other)", "join(one, other)", "rank_counts(size)", "rank(stair)",
        "chain_count(one, other)", "covers(stair)",
    ),
    "rounds": ("rounds(stair)", "round_plan(stair)", "shows_rounds(stair, value)", "in_reach(stair, many)"),
    "moves": (
        "ring_moves(size, moves)", "moves_of(rising)", "mirrored(rising)", "rising_count(size)", "move_count(rising)",
        "rising_rows(size)", "joined_moves(one, other)", "win_moves(size, person)", "move_rest(rising)",
        "win_count(size, person)", "blocks(rising)", "wins(size, moves, person)",
    ),
    "rings": (
        "lift(size, bells)", "lift_after(one, other)", "turns_back(size, bells)", "lift_count(lift)",
        "ring_winner(size, bells)", "lift_bells(lift)", "lifts_within(size, many)", "same_in_ring(size, one, other)",
        "same_signs(size, one, other)",
    ),
    "webs": (
        "web_ring(web, log)", "web_said(web, signs, log)", "trace(web, log, person)", "left_over(web, log)",
        "needless_entries(web, log)",
    ),
    "goals": ("log_to(web, goal)", "reached_count(web)", "log_count(web, goal, many)"),
    "winning": (
        "winners(web)", "win_log(web, person)", "springs(web)", "least_left(web)", "closed_count(web)", "parted(web)",
        "shows_parted(web, value)",
    ),
    "cheapest": (
        "cheap_win(web, prices, person)", "cheap_paper(web, prices, person)",
        "shows_cheap_win(web, prices, person, value)", "shows_cheap_paper(web, prices, person, value)",
    ),
    "beats": ("beat_win(web, person)", "beats_to(web, goal)"),
    "hearings": ("fitting(hearings)", "first_unfit(hearings)", "surely(hearings)"),
    "starts": (
        "tells_all(size, starts)", "shows_not_told(size, starts, value)", "not_told(size, starts)",
        "fewest_starts(size, kinds)", "best_starts(size, kinds)",
    ),
    "patterns": ("web_fitting(web, hearings)", "patterns(web, signs)", "pattern_log(web, signs, goal)"),
    "odds": ("stair_chances(size, odds, many)", "mean_wait(size, odds, person)", "visit_chance(size, odds, stair)"),
    "drift": ("win_chances(web, odds)", "still_said(web, odds, many)", "mean_agreed(web, odds)"),
    "times": (
        "earliest(web, times, person)", "latest_start(web, times, person)", "timed_path(web, times, person, goal)",
        "shows_timed_path(web, times, person, goal, value)",
    ),
    "hindering": (
        "hinder(web, person, goal)", "ways_apart(web, person, goal)", "shows_hinder(web, person, goal, value)",
        "shows_ways_apart(web, person, goal, value)",
    ),
    "again": (
        "log_power(web, log, many)", "kept_signs(web, log)", "sorted_log(web, log)", "log_rest(web, log)",
        "log_classes(web, many)",
    ),
    "hands": ("forced_win(web, person, many)",),
    "webtext": ("write_web(web)", "read_web(text)"),
    "choirs": ("Choir(web)",),
    "groups": (
        "closed_sets(web)", "spreads(web, log)", "closure(web, some)", "inside(web, some)",
        "cheap_agreement(web, prices)", "shows_agreement(web, prices, value)",
    ),
    "streams": (
        "cheap_hinder(web, prices, person, goal)", "streams(web, prices, person, goal)",
        "shows_cheap_hinder(web, prices, person, goal, value)", "shows_streams(web, prices, person, goal, value)",
    ),
    "keeping": ("heard_sets(web, log)", "full_log(web)", "full_count(web)"),
    "twins": ("tells_goals(web, starts)", "shows_goal_twins(web, starts, value)", "goal_twins(web, starts)"),
    "paying": (
        "cheap_moves(size, prices, rising)", "cheap_goal(web, prices, goal)",
        "shows_cheap_moves(size, prices, rising, value)", "shows_cheap_goal(web, prices, goal, value)",
    ),
    "between": (
        "between_count(one, other)", "steady_below(stair)", "single(stair)", "own(stair)", "lost(stair)",
        "steady_above(stair)",
    ),
    "shares": (
        "shares_for(web, chances)", "shares_paper(web, chances)", "evenest(web, chances)",
        "shows_shares(web, chances, value)", "shows_shares_paper(web, chances, value)",
        "shows_evenest(web, chances, value)",
    ),
}

METHODS = {
    "choirs.Choir": ("take(self, index)", "says(self)", "log(self)", "speak(self, person, sign)", "undo(self)"),
}


class Interface(unittest.TestCase):
    def test_each_function_stands_in_its_file_with_its_arguments(self):
        for module, lines in INTERFACE.items():
            found = importlib.import_module(f"bellcopies.{module}")
            for line in lines:
                with self.subTest(module=module, line=line):
                    name = line.partition("(")[0]
                    function = getattr(found, name)
                    self.assertEqual(function.__module__, f"bellcopies.{module}")
                    self.assertEqual(f"{name}{inspect.signature(function)}", line)

    def test_each_method_stands_in_its_class_with_its_arguments(self):
        for name, lines in METHODS.items():
            module, _, class_name = name.partition(".")
            found = vars(getattr(importlib.import_module(f"bellcopies.{module}"), class_name))
            for line in lines:
                with self.subTest(name=name, line=line):
                    method = line.partition("(")[0]
                    self.assertEqual(f"{method}{inspect.signature(found[method])}", line)
