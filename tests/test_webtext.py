"""Point 27: webs as texts."""

import itertools
import random
import re
import unittest

from bellcopies.errors import InvalidText, NotText
from bellcopies.webtext import read_web, write_web
from tests.support import NOT_INTEGERS, NOT_TUPLES, arcs_among, error_of, small_webs, some_webs

FULL = (4, tuple(arcs_among(4)))
FULL_TEXT = (
    "4 : 1>2 , 1>3 , 1>4 , 2>1 , 2>3 , 2>4 , 3>1 , 3>2 , 3>4 , 4>1 , 4>2 , 4>3"
)


def webs():
    for size in (1, 2, 3):
        yield from small_webs(size)
    yield from some_webs(140, 100, (4, 5, 6))
    yield FULL


def slow_read(text):
    """The web that a text names, or the place of its first fault: word by word, against what may stand next."""
    words = [(found.group(), found.start()) for found in re.finditer("[0-9]+|[^ ]", text)]
    wanted = ["size"]
    people = []
    for word, place in words:
        at = wanted.pop(0) if wanted else "end"
        if at in ("size", "from", "to"):
            most = 6 if at == "size" else people[0]
            if not re.fullmatch("[0-9]+", word) or str(int(word)) != word or not 1 <= int(word) <= most:
                return place
            people.append(int(word))
            if at == "to":
                arcs = list(zip(people[1::2], people[2::2]))
                if arcs[-1][0] == arcs[-1][1] or arcs[-1] in arcs[:-1]:
                    return place
        elif at == "end":
            sign = ":" if len(people) == 1 else ","
            if word != sign or len(people) == 25:
                return place
            wanted = ["from", ">", "to"]
        elif word != at:
            return place
    if wanted:
        return len(text)
    return people[0], tuple(zip(people[1::2], people[2::2]))


def place_of(text):
    """The place of the fault that is found in a text."""
    error = error_of(read_web, (text,))
    return error.place if type(error) is InvalidText else error


def words_of(web):
    """The words of the text of a web."""
    words = [str(web[0])]
    for source, taker in web[1]:
        words += ["," if len(words) > 1 else ":", str(source), ">", str(taker)]
    return words


class WriteWeb(unittest.TestCase):
    def test_spaces(self):
        self.assertEqual(write_web((3, ((1, 2), (2, 3)))), "3 : 1>2 , 2>3")
        self.assertEqual(write_web((6, ((6, 1),))), "6 : 6>1")
        self.assertEqual(write_web(FULL), FULL_TEXT)

    def test_without_arcs(self):
        for size in range(1, 7):
            self.assertEqual(write_web((size, ())), str(size))

    def test_each_web(self):
        for web in webs():
            text = write_web(web)
            parts = [f"{source}>{taker}" for source, taker in web[1]]
            self.assertEqual(text, str(web[0]) + (" : " + " , ".join(parts) if parts else ""))
            self.assertIs(type(text), str)

    def test_what_is_written_is_read(self):
        for web in webs():
            self.assertEqual(read_web(write_web(web)), web)


class ReadWeb(unittest.TestCase):
    def check(self, text):
        expected = slow_read(text)
        if isinstance(expected, int):
            self.assertEqual(place_of(text), expected, repr(text))
        else:
            self.assertEqual(read_web(text), expected, repr(text))

    def test_loose_spaces(self):
        self.assertEqual(read_web("3:1>2"), (3, ((1, 2),)))
        self.assertEqual(read_web("3:1>2,2>3"), (3, ((1, 2), (2, 3))))
        self.assertEqual(read_web("   3   :   1   >   2   ,   2   >   3   "), (3, ((1, 2), (2, 3))))
        self.assertEqual(read_web(" 6 "), (6, ()))
        chance = random.Random(141)
        for web in webs():
            words = words_of(web)
            for most in (0, 1, 3):
                text = "".join(" " * chance.randint(0, most) + word for word in words) + " " * chance.randint(0, most)
                self.assertEqual(read_web(text), web, repr(text))

    def test_without_arcs(self):
        for size in range(1, 7):
            self.assertEqual(read_web(str(size)), (size, ()))

    def test_kinds_of_values(self):
        size, arcs = read_web("3 : 1>2")
        self.assertEqual([type(size), type(arcs), type(arcs[0]), type(arcs[0][0])], [int, tuple, tuple, int])

    def test_spaces_inside_a_number(self):
        # Two digits apart are two numbers, and no number may follow another one.
        self.assertEqual(place_of("3 1 : 1>2"), 2)
        self.assertEqual(place_of("3 : 1 2>3"), 6)
        self.assertEqual(place_of("3 : 1>2 3"), 8)

    def test_characters_that_are_not_allowed(self):
        self.assertEqual(place_of("x"), 0)
        self.assertEqual(place_of(" : 1>2"), 1)
        self.assertEqual(place_of("-3"), 0)
        self.assertEqual(place_of("+3"), 0)
        self.assertEqual(place_of("3,1>2"), 1)
        self.assertEqual(place_of("3 1>2"), 2)
        self.assertEqual(place_of("3 : : 1>2"), 4)
        self.assertEqual(place_of("3 : ,"), 4)
        self.assertEqual(place_of("3 : 1<2"), 5)
        self.assertEqual(place_of("3 : 1>>2"), 6)
        self.assertEqual(place_of("3 : 1>-2"), 6)
        self.assertEqual(place_of("3 : 1>2 : 2>3"), 8)
        self.assertEqual(place_of("3 : 1>2 ; 2>3"), 8)
        self.assertEqual(place_of("3 : 1>2 ,, 2>3"), 9)
        self.assertEqual(place_of("3 : 1>2>3"), 7)
        self.assertEqual(place_of("3 : 1>2."), 7)

    def test_no_other_spaces_and_digits(self):
        for char in ("\t", "\n", "\r", "\x00", "\u00a0", "\u2003", "\u0662", "\u00b2", "\uff12", "\U0001f514", "_", "'"):
            self.assertEqual(place_of(char), 0)
            self.assertEqual(place_of("3" + char), 1)
            self.assertEqual(place_of("3 :" + char + "1>2"), 3)
            self.assertEqual(place_of("3 : 1>" + char), 6)
            self.assertEqual(place_of("3 : 1>2" + char), 7)

    def test_leading_zeros(self):
        self.assertEqual(place_of("03"), 0)
        self.assertEqual(place_of("  003 : 1>2"), 2)
        self.assertEqual(place_of("00"), 0)
        self.assertEqual(place_of("3 : 01>2"), 4)
        self.assertEqual(place_of("3 : 1> 02"), 7)

    def test_numbers_out_of_their_range(self):
        for word in ("0", "7", "9", "10", "12", "31", "66", "1" * 5000):
            self.assertEqual(place_of(" " + word + " : 1>2"), 1)
        for word in ("0", "4", "9", "10", "12", "11", "3" * 5000):
            self.assertEqual(place_of("3 : " + word + ">2"), 4)
            self.assertEqual(place_of("3 : 1>  " + word), 8)
            self.assertEqual(place_of("3 : 1>2 , 2>" + word + " x"), 12)
        self.assertEqual(place_of("1 : 1>2"), 6)
        self.assertEqual(place_of("1 : 2>1"), 4)

    def test_from_and_to_are_unlike(self):
        self.assertEqual(place_of("3 : 1>1"), 6)
        self.assertEqual(place_of("3:  2 >  2"), 9)
        self.assertEqual(place_of("1 : 1>1"), 6)

    def test_arcs_that_stand_before(self):
        self.assertEqual(place_of("3 : 1>2 , 1>2"), 12)
        self.assertEqual(place_of("3:1>2,2>1,1>  2,"), 14)
        self.assertEqual(read_web("3 : 1>2 , 2>1"), (3, ((1, 2), (2, 1))))

    def test_thirteenth_arc(self):
        self.assertEqual(read_web(FULL_TEXT), FULL)
        self.assertEqual(read_web("6" + FULL_TEXT[1:] + "  "), (6, FULL[1]))
        for end in (",", " ,", " , 5>6", " , 1>2", ", x", "   ,"):
            text = "6" + FULL_TEXT[1:] + end
            self.assertEqual(place_of(text), len(FULL_TEXT) + end.index(","))
        self.assertEqual(place_of("6" + FULL_TEXT[1:] + " x"), len(FULL_TEXT) + 1)

    def test_texts_that_end_too_early(self):
        for text in ("", " ", "3 :", "3 : ", "3 : 1", "3 : 1 ", "3 : 1>", "3 : 1>   ", "3 : 1>2 ,", "3:1>2, ", "3:1>2,2>"):
            self.assertEqual(place_of(text), len(text), repr(text))

    def test_first_fault_first(self):
        self.assertEqual(place_of("9 : x"), 0)
        self.assertEqual(place_of("3 : 4>4 x"), 4)
        self.assertEqual(place_of("3 : 1>1 , 1>1"), 6)
        self.assertEqual(place_of("3 : 1>2 x 1>2"), 8)

    def test_all_short_texts(self):
        for many in range(6):
            for chars in itertools.product("0123:>, ", repeat=many):
                self.check("".join(chars))

    def test_texts_near_good_ones(self):
        chance = random.Random(142)
        chars = "0123456789:>, x"
        for web in list(some_webs(143, 200, (2, 3, 4, 5, 6))) + [FULL] * 50:
            text = "".join(word + " " * chance.choice((0, 0, 1)) for word in words_of(web))
            for _ in range(6):
                at = chance.randrange(len(text) + 1)
                self.check(text[:at] + text[at + 1:])
                self.check(text[:at] + chance.choice(chars) + text[at:])
                self.check(text[:at] + chance.choice(chars) + text[at + 1:])
                self.check(text[:at])
                other = chance.randrange(len(text) + 1)
                self.check(text[:at] + text[other:])

    def test_values_that_are_no_strings(self):
        for value in NOT_INTEGERS + NOT_TUPLES:
            if not isinstance(value, str):
                self.assertIs(type(error_of(read_web, (value,))), NotText)
