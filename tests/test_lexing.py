"""Keywords, names and tokens: [J1] and [J2]."""

import random
import re
import string
import unittest

from suretrips.lexing import KEYWORDS, is_name, tokens
from tests.common import KINDS, answer, check_calls, raised, tokens_told

LETTERS = string.ascii_lowercase
SIGNS = LETTERS + string.digits


class Keywords(unittest.TestCase):

    def test_all_of_them_ascending(self):
        self.assertEqual(KEYWORDS, ("along", "ask", "both", "follow", "followers", "in", "known", "least", "most",
                                    "not", "out", "places", "road", "say", "sure", "touch"))
        self.assertEqual(list(KEYWORDS), sorted(KEYWORDS))


class IsName(unittest.TestCase):

    def test_names_of_up_to_eight_signs(self):
        for name in tuple(LETTERS) + ("a0", "z9", "abcdefgh", "a1234567", "zzzzzzzz", "outs", "ou", "roadx", "insure",
                                      "follower", "asks", "in0", "ins"):
            self.assertIs(is_name(name), True)

    def test_keywords_are_none(self):
        for word in KEYWORDS:
            self.assertIs(is_name(word), False)

    def test_what_is_none(self):
        for value in ("", "abcdefghi", "a12345678", "0", "1a", "9", "A", "aB", "a b", " a", "a ", "a\n", "\na", "a-b", "a_",
                      "_a", "a:", ";", "a.", "followers", "followerss", "a" * 20000, "Out", "a\tb", "a.b", "?"):
            self.assertIs(is_name(value), False)
        for value in KINDS:
            self.assertIs(is_name(value), value == "a")

    def test_each_sign(self):
        for number in range(32, 127):
            sign = chr(number)
            self.assertIs(is_name(sign), sign in LETTERS)
            self.assertIs(is_name("b" + sign), sign in SIGNS)
            self.assertIs(is_name("bcdefgh" + sign), sign in SIGNS)
            self.assertIs(is_name("b" + sign + "b"), sign in SIGNS)


class Tokens(unittest.TestCase):

    def test_sorts_and_places(self):
        for text, wanted in (
                ("", ()), (" \n ", ()), ("a", (("word", "a", 0),)), ("  a\n", (("word", "a", 2),)),
                ("0", (("number", "0", 0),)), ("10", (("number", "10", 0),)), ("..", (("sign", "..", 0),)),
                ("....", (("sign", "..", 0), ("sign", "..", 2))),
                ("a1b2", (("word", "a1b2", 0),)), ("1a", (("number", "1", 0), ("word", "a", 1))),
                ("0a", (("number", "0", 0), ("word", "a", 1))), ("0..0", (("number", "0", 0), ("sign", "..", 1), ("number", "0", 3))),
                (";:>?", (("sign", ";", 0), ("sign", ":", 1), ("sign", ">", 2), ("sign", "?", 3))),
                ("in\nout", (("word", "in", 0), ("word", "out", 3)))):
            self.assertEqual(tokens(text), wanted)

    def test_keywords_are_words(self):
        for word in KEYWORDS:
            self.assertEqual(tokens(word), (("word", word, 0),))
            self.assertEqual(tokens("5 " + word + ";"), (("number", "5", 0), ("word", word, 2), ("sign", ";", 2 + len(word))))

    def test_how_long_a_row_may_be(self):
        for row in ("abcdefgh", "a1234567", "1" * 31, "9" * 31, "followers", "1" + "0" * 30):
            self.assertEqual([text for _, text, _ in tokens(row)], [row])
            self.assertEqual(tokens("?" + row)[1][2], 1)
        for row in ("abcdefghi", "a12345678", "followersx", "followers1", "follower12", "1" * 32, "00", "01", "007", "0" * 32,
                    "a" * 20000, "1" * 20000, "xfollowers"):
            self.assertEqual(answer(tokens, row), raised("BadText", place=0))
            self.assertEqual(answer(tokens, "a; " + row + " b"), raised("BadText", place=3))

    def test_a_point_alone(self):
        for text, place in ((".", 0), ("...", 2), ("5.", 1), ("5. .", 1), ("5.5", 1), ("a.b", 1), (".. .", 3), (".\n.", 0), (".....", 4)):
            self.assertEqual(answer(tokens, text), raised("BadText", place=place))

    def test_signs_that_begin_no_token(self):
        for number in range(32, 127):
            sign = chr(number)
            if sign not in SIGNS + ";:>? ":
                for text, place in ((sign, 0), ("a " + sign, 2), ("12" + sign, 2), (" " + sign + "..", 1)):
                    if sign != "." or text[-1] != ".":
                        self.assertEqual(answer(tokens, text), raised("BadText", place=place))
        for sign in ("\t", "\r"):
            self.assertEqual(answer(tokens, "a" + sign), raised("BadText", place=1))

    def test_the_first_fault_counts(self):
        self.assertEqual(answer(tokens, "a 07 abcdefghi ,"), raised("BadText", place=2))
        self.assertEqual(answer(tokens, "a , 07"), raised("BadText", place=2))

    def test_no_string(self):
        for value in KINDS:
            if not isinstance(value, str):
                self.assertEqual(answer(tokens, value), raised("BadText", place=0))

    def test_texts_drawn_by_chance(self):
        chance = random.Random(82)
        parts = ("a", "b1", "followers", "follower", "0", "7", "12", "..", ".", ";", ":", ">", "?", " ", "\n", "  ", "abcdefgh",
                 "1234567890123456", "road", "A", ",")
        for _ in range(4000):
            text = "".join(chance.choices(parts, weights=[3] * 18 + [1, 1, 1], k=chance.randint(0, 9)))
            wanted, fault = tokens_told(text)
            if fault is None:
                self.assertEqual(tokens(text), tuple(wanted))
            else:
                self.assertEqual(answer(tokens, text), raised("BadText", place=fault))

    def test_long_texts(self):
        text = "road a1:b>c 7..;\n" * 1100
        told = tokens(text)
        self.assertEqual(len(told), 9900)
        self.assertEqual([text[place:place + len(part)] for _, part, place in told], [part for _, part, _ in told])
        self.assertEqual("".join([part for _, part, _ in told]), re.sub("[ \n]", "", text))
        self.assertEqual(tokens(" " * 19999 + "a"), (("word", "a", 19999),))


class Calls(unittest.TestCase):

    def test_by_place_by_name_and_again(self):
        for value in KINDS + ("a 07", "road a1:b>c 7..;", "out", "abcdefgh", tokens("a b 5")):
            check_calls(self, is_name, ("value",), (value,))
            check_calls(self, tokens, ("value",), (value,))


if __name__ == "__main__":
    unittest.main()
