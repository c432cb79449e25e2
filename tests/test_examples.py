"""The examples of the interface, as the document gives them."""

import doctest
import unittest

from bellcopies.errors import InvalidText
from bellcopies.webtext import read_web

EXAMPLES = {
    "rows": """
>>> from bellcopies.rows import ring, said, sayings
>>> [ring(3, (2, 3)), ring(3, (3, 2)), said((5, 6, 7), (3, 2)), sayings((1, 2), (2,))]
[(1, 1, 1), (1, 1, 2), (5, 5, 6), ((1, 2), (1, 1))]
""",
    "climbs": """
>>> from bellcopies.climbs import climb
>>> [climb(3, (2, 3), 1, 3), climb(3, (3, 2), 1, 3)]
[(0, 1), None]
""",
    "stairs": """
>>> from bellcopies.stairs import all_bells, bell_count, bells_of, row_count, stairs
>>> [stairs(2), all_bells((1, 1, 2, 2)), bells_of((1, 1, 2, 2)), row_count((1, 1, 2, 2)), bell_count((1, 1, 1, 2))]
[((1, 1), (1, 2)), ((3, 2, 4), (3, 4, 2)), (3, 2, 4), 2, 4]
""",
    "alike": """
>>> from bellcopies.alike import needless, same, shortened, telling
>>> [same(3, (2, 3, 2), (2, 3)), telling(3, (2, 3), (3, 2)), shortened(3, (2, 3, 2, 3)), needless(3, (2, 2))]
[True, 3, (2, 3), (0, 1)]
""",
    "products": """
>>> from bellcopies.products import combined, goes_on, power, rest_of, steady_stairs
>>> [combined((1, 1, 3), (1, 2, 2)), power((1, 1, 2), 2), rest_of((1, 1, 2)), goes_on((1, 1, 2), (1, 1, 1)), steady_stairs(2)]
[(1, 1, 1), (1, 1, 1), 2, (3,), ((1, 1), (1, 2))]
""",
    "order": """
>>> from bellcopies.order import chain_count, covers, rank, rank_counts
>>> [rank((1, 1, 2)), covers((1, 2, 2)), rank_counts(3), chain_count((1, 2, 3), (1, 1, 1))]
[2, ((1, 1, 2),), (1, 2, 1, 1), 2]
""",
    "rounds": """
>>> from bellcopies.rounds import in_reach, rounds, shows_rounds
>>> [rounds((1, 1, 3, 3)), shows_rounds((1, 1, 3, 3), ((2, 4),)), in_reach((1, 1), 3)]
[1, True, True]
""",
    "moves": """
>>> from bellcopies.moves import blocks, mirrored, move_count, ring_moves, rising_count, win_moves
>>> [ring_moves(3, (-2, 3)), rising_count(3), mirrored((1, 1, 2)), blocks((1, 1, 3)), win_moves(3, 2), move_count((1, 3, 3))]
[(1, 3, 3), 10, (2, 3, 3), ((1, 2), (3, 1)), (-1, 3), 1]
""",
    "rings": """
>>> from bellcopies.rings import lift, lift_bells, lift_count, lifts_within, ring_winner, turns_back
>>> [lift(2, (1, 2)), lift_count((0, 0)), lift_bells((0, 0)), turns_back(2, (1, 2)), ring_winner(2, (1,)), lifts_within(2, 2)]
[(0, 0), 2, (1, 2), (0, 1), 2, 5]
""",
    "webs": """
>>> from bellcopies.webs import left_over, needless_entries, trace, web_ring
>>> web = (3, ((1, 2), (2, 3)))
>>> [web_ring(web, (0, 1)), trace(web, (0, 1), 3), left_over(web, (1, 0)), needless_entries(web, (0, 0))]
[(1, 1, 1), (0, 1), (1, 2), (0, 1)]
""",
    "goals": """
>>> from bellcopies.goals import log_to, reached_count
>>> web = (3, ((1, 2), (2, 3)))
>>> [log_to(web, (1, 1, 1)), log_to(web, (2, 2, 3)), reached_count(web)]
[(0, 1), None, 5]
""",
    "winning": """
>>> from bellcopies.winning import closed_count, least_left, springs, win_log, winners
>>> web = (3, ((1, 2), (2, 3)))
>>> [winners(web), win_log(web, 1), springs(web), closed_count(web), least_left((3, ((1, 2),)))]
[(1,), (0, 1), ((1,),), 4, 2]
""",
    "cheapest": """
>>> from bellcopies.cheapest import cheap_win, shows_cheap_paper
>>> web = (2, ((1, 2),))
>>> [cheap_win(web, (3,), 1), shows_cheap_paper(web, (3,), 1, (((2,), 3),))]
[(3, (0,)), True]
""",
    "beats": """
>>> from bellcopies.beats import beat_win, beats_to
>>> web = (3, ((1, 2), (2, 3)))
>>> [beat_win(web, 1), beats_to(web, (1, 1, 2))]
[2, 1]
""",
    "hearings": """
>>> from bellcopies.hearings import first_unfit, fitting, surely
>>> [fitting((((1, 2, 3), (1, 1, 2)),)), first_unfit((((1, 2), (2, 2)),)), surely((((1, 1, 2), (1, 1, 1)),))]
[((1, 1, 2),), 1, (1, None, None)]
""",
    "starts": """
>>> from bellcopies.starts import best_starts, fewest_starts, tells_all
>>> [fewest_starts(2, 2), best_starts(2, 2), tells_all(3, ((1, 2, 3),))]
[1, ((0, 1),), True]
""",
    "patterns": """
>>> from bellcopies.patterns import pattern_log, patterns
>>> web = (3, ((1, 2), (2, 3)))
>>> [patterns(web, (1, 2, 2)), pattern_log(web, (1, 2, 2), (1, 1, 1))]
[((1, 1, 1), (1, 1, 2), (1, 2, 2)), (0, 1)]
""",
    "odds": """
>>> from bellcopies.odds import mean_wait, stair_chances, visit_chance
>>> half = ((1, 2), (1, 2))
>>> [mean_wait(3, half, 3), visit_chance(3, half, (1, 1, 2)), stair_chances(2, ((1, 1),), 1)]
[(4, 1), (1, 2), (((1, 1), (1, 1)),)]
""",
    "drift": """
>>> from bellcopies.drift import mean_agreed, still_said, win_chances
>>> half = ((1, 2), (1, 2))
>>> web = (3, ((1, 2), (2, 3)))
>>> [win_chances((2, ((1, 2), (2, 1))), half), mean_agreed(web, half), still_said(web, half, 1)]
[((1, 2), (1, 2)), (4, 1), (2, 1)]
""",
    "times": """
>>> from bellcopies.times import earliest, latest_start, timed_path
>>> web = (3, ((1, 2), (2, 3)))
>>> [earliest(web, ((2, 3), (0, 1)), 1), latest_start(web, ((2, 3), (0, 9)), 1), timed_path((2, ((1, 2),)), ((2, 3),), 1, 2)]
[(0, 2, None), 3, ((0, 2),)]
""",
    "hindering": """
>>> from bellcopies.hindering import hinder, ways_apart
>>> [hinder((2, ((1, 2),)), 1, 2), ways_apart((3, ((1, 2), (2, 3))), 1, 3)]
[(0,), ((0, 1),)]
""",
    "again": """
>>> from bellcopies.again import kept_signs, log_classes, log_rest, sorted_log
>>> far = (4, ((1, 2), (3, 4)))
>>> [sorted_log(far, (1, 0)), log_classes(far, 2), log_rest((3, ((1, 2), (2, 3))), (1, 0)), kept_signs((3, ((1, 2), (2, 3))), (0, 1))]
[(0, 1), 3, (2, 1), (1,)]
""",
    "hands": """
>>> from bellcopies.hands import forced_win
>>> forced_win((3, ((1, 2), (2, 3))), 1, 9)
3
""",
    "webtext": """
>>> from bellcopies.webtext import read_web, write_web
>>> [write_web((3, ((1, 2), (2, 3)))), read_web('3:1>2')]
['3 : 1>2 , 2>3', (3, ((1, 2),))]
""",
    "choirs": """
>>> from bellcopies.choirs import Choir
>>> choir = Choir((3, ((1, 2), (2, 3))))
>>> [choir.take(0), choir.speak(1, 9), choir.take(0), choir.log(), choir.undo(), choir.says()]
[(1, 1, 3), None, (9, 9, 3), (0, 0), None, (9, 1, 3)]
""",
    "groups": """
>>> from bellcopies.groups import cheap_agreement, closed_sets, closure, inside, spreads
>>> web = (2, ((1, 2),))
>>> [closed_sets(web), closure(web, (2,)), inside(web, (2,)), spreads(web, (0,)), cheap_agreement(web, (5,))]
[((), (1,), (1, 2)), (1, 2), (), ((1, 1), (2, 0)), (5, 1, (0,))]
""",
    "streams": """
>>> from bellcopies.streams import cheap_hinder, streams
>>> web = (2, ((1, 2),))
>>> [cheap_hinder(web, (4,), 1, 2), streams(web, (4,), 1, 2)]
[(4, (0,)), (4,)]
""",
    "keeping": """
>>> from bellcopies.keeping import full_count, full_log, heard_sets
>>> web = (2, ((1, 2), (2, 1)))
>>> [heard_sets(web, (0,)), full_log(web), full_count(web)]
[((1,), (1, 2)), (0, 1), 2]
""",
    "twins": """
>>> from bellcopies.twins import shows_goal_twins, tells_goals
>>> web = (2, ((1, 2),))
>>> [tells_goals(web, ((4, 7),)), shows_goal_twins(web, ((4, 4),), ((1, 1), (1, 2)))]
[True, True]
""",
    "paying": """
>>> from bellcopies.paying import cheap_goal, cheap_moves
>>> [cheap_moves(2, (3, 4), (1, 1)), cheap_goal((2, ((1, 2),)), (5,), (2, 2))]
[(4, (2,)), None]
""",
    "between": """
>>> from bellcopies.between import between_count, lost, own, single, steady_above, steady_below
>>> [between_count((1, 2, 3), (1, 1, 1)), steady_below((1, 1, 2)), steady_above((1, 1, 2)), single((1, 1, 2)), own((1, 1, 3)), lost((1, 1, 3))]
[5, (1, 1, 1), ((1, 1, 3), (1, 2, 2)), (2, 3), (1, 3), (2,)]
""",
    "shares": """
>>> from bellcopies.shares import evenest, shares_for, shows_shares_paper
>>> pair = (2, ((1, 2), (2, 1)))
>>> [shares_for(pair, ((1, 3), (2, 3))), evenest(pair, ((1, 3), (2, 3))), shows_shares_paper((2, ((1, 2),)), ((1, 2), (1, 2)), ((0, 1), (2, 1)))]
[((1, 3), (2, 3)), ((2, 3), ((1, 3), (2, 3))), True]
""",
}


class Examples(unittest.TestCase):
    def test_each_heading(self):
        for name, text in EXAMPLES.items():
            with self.subTest(module=name):
                example = doctest.DocTestParser().get_doctest(text, {}, name, None, 0)
                self.assertGreater(len(example.examples), 1)
                told = []
                result = doctest.DocTestRunner(verbose=False).run(example, out=told.append)
                self.assertEqual(result.failed, 0, "".join(told))

    def test_the_example_that_raises(self):
        with self.assertRaises(InvalidText) as caught:
            read_web('3 : 1>1')
        self.assertEqual(caught.exception.place, 6)
