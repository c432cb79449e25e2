"""Point 28: choirs."""

import random
import unittest

from bellcopies.choirs import Choir
from bellcopies.errors import BadArc, BadPerson, BadSign, NothingToUndo, TooLong
from tests.kinds import ARC, PERSON, SIGN
from tests.support import arcs_among, error_of, people_of, slow_says, small_webs, some_webs

PATH = (3, ((1, 2), (2, 3)))
FULL = (4, tuple(arcs_among(4)))


class Takes(unittest.TestCase):
    def test_own_signs_at_first(self):
        for web in list(small_webs(1)) + list(small_webs(2)) + list(some_webs(150, 30, (3, 4, 5, 6))):
            choir = Choir(web)
            self.assertEqual(choir.says(), people_of(web))
            self.assertEqual(choir.log(), ())

    def test_what_is_said_then(self):
        choir = Choir(PATH)
        self.assertEqual(choir.take(1), (1, 2, 2))
        self.assertEqual(choir.says(), (1, 2, 2))
        self.assertEqual(choir.take(0), (1, 1, 2))
        self.assertEqual(choir.take(0), (1, 1, 2))
        self.assertEqual(choir.log(), (1, 0, 0))

    def test_longest_log(self):
        chance = random.Random(151)
        choir = Choir(FULL)
        log = ()
        for _ in range(60):
            log += (chance.randrange(12),)
            self.assertEqual(choir.take(log[-1]), slow_says(FULL, people_of(FULL), log))
            self.assertEqual(choir.log(), log)
        says = choir.says()
        for index in range(12):
            self.assertIs(type(error_of(choir.take, (index,))), TooLong)
            self.assertEqual((choir.says(), choir.log()), (says, log))
        # What is no arc is told first.
        self.assertIs(type(error_of(choir.take, (12,))), BadArc)
        self.assertIs(type(error_of(choir.take, (None,))), BadArc)
        # Signs of one's own stand in no log.
        self.assertIsNone(choir.speak(1, 50))
        self.assertEqual((choir.says(), choir.log()), ((50,) + says[1:], log))
        choir.undo()
        choir.undo()
        self.assertEqual(choir.log(), log[:-1])
        self.assertEqual(choir.take(log[-1]), says)
        self.assertIs(type(error_of(choir.take, (0,))), TooLong)

    def test_webs_without_arcs(self):
        for size in (1, 2, 6):
            choir = Choir((size, ()))
            for index in (0, -1, 1):
                self.assertIs(type(error_of(choir.take, (index,))), BadArc)
            choir.speak(size, 99)
            self.assertEqual(choir.says(), people_of((size, ()))[:-1] + (99,))
            self.assertIsNone(choir.undo())
            self.assertEqual(choir.says(), people_of((size, ())))

    def test_one_choir_does_not_hear_another(self):
        one, other = Choir(PATH), Choir(PATH)
        one.take(0)
        one.speak(3, 7)
        self.assertEqual((other.says(), other.log()), ((1, 2, 3), ()))
        self.assertIs(type(error_of(other.undo, ())), NothingToUndo)


class Speaks(unittest.TestCase):
    def test_from_now_on(self):
        choir = Choir(PATH)
        choir.take(0)
        self.assertIsNone(choir.speak(1, 9))
        # Who has taken over before keeps what was said then.
        self.assertEqual(choir.says(), (9, 1, 3))
        self.assertEqual(choir.take(0), (9, 9, 3))
        self.assertEqual(choir.take(1), (9, 9, 9))
        self.assertIsNone(choir.speak(2, 5))
        self.assertEqual(choir.says(), (9, 5, 9))
        self.assertEqual(choir.take(0), (9, 9, 9))
        self.assertEqual(choir.log(), (0, 0, 1, 0))

    def test_least_and_greatest_sign(self):
        for person in (1, 2, 3):
            for sign in (1, 99):
                choir = Choir(PATH)
                choir.speak(person, sign)
                self.assertEqual(choir.says(), (1, 2, 3)[:person - 1] + (sign,) + (1, 2, 3)[person:])
        for sign in (0, 100, -1):
            self.assertIs(type(error_of(Choir(PATH).speak, (1, sign))), BadSign)

    def test_person_before_sign(self):
        for person, _, _ in PERSON[1]:
            for sign, _, _ in SIGN[1]:
                self.assertIs(type(error_of(Choir(PATH).speak, (person, sign))), BadPerson)


class Undoes(unittest.TestCase):
    def test_last_one_first(self):
        choir = Choir(PATH)
        choir.take(0)
        choir.speak(2, 8)
        choir.take(1)
        self.assertEqual((choir.says(), choir.log()), ((1, 8, 8), (0, 1)))
        self.assertIsNone(choir.undo())
        self.assertEqual((choir.says(), choir.log()), ((1, 8, 3), (0,)))
        self.assertIsNone(choir.undo())
        self.assertEqual((choir.says(), choir.log()), ((1, 1, 3), (0,)))
        self.assertIsNone(choir.undo())
        self.assertEqual((choir.says(), choir.log()), ((1, 2, 3), ()))
        self.assertIs(type(error_of(choir.undo, ())), NothingToUndo)

    def test_nothing_to_undo(self):
        for web in ((1, ()), PATH, FULL):
            choir = Choir(web)
            for _ in range(3):
                self.assertIs(type(error_of(choir.undo, ())), NothingToUndo)
                self.assertEqual((choir.says(), choir.log()), (people_of(web), ()))

    def test_what_changes_nothing_is_taken_back_too(self):
        choir = Choir((2, ((1, 2),)))
        choir.take(0)
        choir.take(0)
        choir.speak(1, 1)
        for log in ((0, 0), (0,), ()):
            choir.undo()
            self.assertEqual(choir.log(), log)
        self.assertIs(type(error_of(choir.undo, ())), NothingToUndo)

    def test_undone_is_not_redone(self):
        choir = Choir(PATH)
        choir.take(0)
        choir.undo()
        self.assertIs(type(error_of(choir.undo, ())), NothingToUndo)
        choir.take(1)
        self.assertEqual(choir.log(), (1,))
        choir.undo()
        self.assertEqual((choir.says(), choir.log()), ((1, 2, 3), ()))


class Errors(unittest.TestCase):
    def test_a_call_that_raises_an_error_changes_nothing(self):
        choir = Choir(PATH)
        choir.take(0)
        choir.speak(3, 7)
        for bad, error, _ in ARC[1]:
            self.assertIs(type(error_of(choir.take, (bad,))), error)
        for bad, error, _ in PERSON[1]:
            self.assertIs(type(error_of(choir.speak, (bad, 5))), error)
        for bad, error, _ in SIGN[1]:
            self.assertIs(type(error_of(choir.speak, (2, bad))), error)
        self.assertEqual((choir.says(), choir.log()), ((1, 1, 7), (0,)))
        # Nor is an error taken back.
        choir.undo()
        self.assertEqual((choir.says(), choir.log()), ((1, 1, 3), (0,)))

    def test_each_call_held_against_all_before(self):
        chance = random.Random(152)
        for web in [(1, ()), PATH, FULL] + list(some_webs(153, 40, (2, 3, 4, 5, 6))):
            choir = Choir(web)
            done = []
            for _ in range(250):
                step = chance.choice(("take", "take", "take", "speak", "speak", "undo", "bad take", "bad speak"))
                if step == "take" and web[1]:
                    index = chance.randrange(len(web[1]))
                    full = sum(1 for entry in done if len(entry) == 1) == 60
                    error = error_of(choir.take, (index,))
                    self.assertIs(type(error), TooLong if full else type(None))
                    done += [] if full else [(index,)]
                elif step == "speak":
                    done.append((chance.randint(1, web[0]), chance.randint(1, 99)))
                    self.assertIsNone(choir.speak(*done[-1]))
                elif step == "undo" and done:
                    self.assertIsNone(choir.undo())
                    done.pop()
                elif step == "undo":
                    self.assertIs(type(error_of(choir.undo, ())), NothingToUndo)
                elif step == "bad take":
                    self.assertIs(type(error_of(choir.take, (len(web[1]),))), BadArc)
                elif step == "bad speak":
                    self.assertIs(type(error_of(choir.speak, (web[0], 0))), BadSign)
                says = people_of(web)
                for entry in done:
                    if len(entry) == 1:
                        says = slow_says(web, says, entry)
                    else:
                        says = says[:entry[0] - 1] + (entry[1],) + says[entry[0]:]
                self.assertEqual(choir.says(), says)
                self.assertEqual(choir.log(), tuple(entry[0] for entry in done if len(entry) == 1))
