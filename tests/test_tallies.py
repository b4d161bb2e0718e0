"""Tallies and their texts: [B1] to [B4], and of [B8] what it says of them."""

import re
import unittest
from itertools import product

from suretrips.nets import roads_from, roads_to
from suretrips.tallies import less, passing, put_together, tally_error, total
from suretrips.tallytexts import read_tally, tally_text
from tests.common import (KINDS, NO_INTEGERS, answer, chain, check_calls, raised, small_nets, some_nets,
                          tallies_within)

SQUARE = (4, ((0, 1), (0, 2), (1, 2), (1, 3), (2, 3)))
SOME = (12, 7, 5, 7, 12)
LINE = (3, ((0, 1), (1, 2)))
DOOR = (2, ((0, 1),))
TOP = 10 ** 30
UNFIT = raised("Unfit")
TOO_MANY = raised("TooMany", limit=TOP)
TEXT = re.compile("(0|[1-9][0-9]{0,30})( (0|[1-9][0-9]{0,30}))*")


def balances(net, counts):
    return all([sum([counts[road] for road in roads_to(net, place)])
                == sum([counts[road] for road in roads_from(net, place)]) for place in range(1, net[0] - 1)])


class TallyError(unittest.TestCase):

    def test_none_of_just_what_balances(self):
        for net in small_nets(3, 3) + small_nets(4, 3)[5::7]:
            for counts in product(range(3), repeat=len(net[1])):
                self.assertIs(tally_error(net, counts) is None, balances(net, counts), (net, counts))

    def test_the_ends_of_what_is_allowed(self):
        for net, tally in ((LINE, (TOP, TOP)), (DOOR, (TOP,)), ((2, ((0, 1),) * 60), (TOP,) * 60), (DOOR, (0,)),
                           (chain(23, 2), (TOP, 0) * 23), (chain(23, 2), (0,) * 46), ((3, ((1, 2),)), (0,)),
                           ((3, ((0, 2), (0, 2))), (3, 4))):
            self.assertIsNone(tally_error(net, tally))
        self.assertEqual(tally_error(LINE, (TOP + 1, TOP + 1)), ("road", 0))
        self.assertEqual(tally_error(LINE, (TOP, TOP + 1)), ("road", 1))
        self.assertEqual(tally_error((3, ((1, 2),)), (1,)), ("place", 1))
        self.assertEqual(tally_error((4, ((0, 1), (2, 3))), (1, 1)), ("place", 1))

    def test_form(self):
        for value in KINDS:
            if not isinstance(value, tuple) or len(value) != 5:
                self.assertEqual(tally_error(SQUARE, value), "form", value)
        for value in (list(SOME), SOME[:4], SOME + (0,), (), "12755", dict(enumerate(SOME)), None):
            self.assertEqual(tally_error(SQUARE, value), "form")

    def test_road(self):
        for count in NO_INTEGERS + (-1, -5, TOP + 1, 10 ** 399, -10 ** 399):
            for road in range(5):
                value = SOME[:road] + (count,) + SOME[road + 1:]
                self.assertEqual(tally_error(SQUARE, value), ("road", road), count)

    def test_place(self):
        self.assertEqual(tally_error(SQUARE, (12, 7, 5, 6, 12)), ("place", 1))
        self.assertEqual(tally_error(SQUARE, (12, 7, 5, 7, 11)), ("place", 2))
        self.assertEqual(tally_error(SQUARE, (11, 7, 5, 7, 11)), ("place", 1))

    def test_the_first_error_is_told(self):
        self.assertEqual(tally_error(SQUARE, [-1, 7, 5, 7]), "form")
        self.assertEqual(tally_error(SQUARE, (-1, 7, 5, 7)), "form")
        self.assertEqual(tally_error(SQUARE, (12, True, -5, 7, 12)), ("road", 1))
        self.assertEqual(tally_error(SQUARE, (1, 7, 5, 7, TOP + 1)), ("road", 4))
        self.assertEqual(tally_error(SQUARE, (1, 1, 2, 3, 9)), ("place", 1))


class Passing(unittest.TestCase):

    def test_total_and_passing(self):
        for net in small_nets(4, 3)[::5] + some_nets()[::5]:
            many, roads = net
            for tally in tallies_within(net, [(0, 2)] * len(roads)):
                whole = total(net, tally)
                self.assertEqual(whole, sum([tally[road] for road in roads_from(net, 0)]))
                self.assertEqual(whole, sum([tally[road] for road in roads_to(net, many - 1)]))
                self.assertEqual((passing(net, tally, 0), passing(net, tally, many - 1)), (whole, whole))
                for place in range(1, many - 1):
                    self.assertEqual(passing(net, tally, place), sum([tally[road] for road in roads_to(net, place)]))

    def test_great_counts(self):
        doors = (2, ((0, 1),) * 60)
        self.assertEqual(total(doors, (TOP,) * 60), 60 * TOP)
        self.assertEqual(passing(doors, (TOP,) * 60, 1), 60 * TOP)
        net = chain(23, 2)
        self.assertEqual({passing(net, (TOP, TOP - 1) * 23, place) for place in range(24)}, {2 * TOP - 1})
        self.assertEqual(passing((24, ((0, 1), (1, 23))), (3, 3), 9), 0)


class Together(unittest.TestCase):

    def test_put_together_and_less(self):
        for net in some_nets()[::6]:
            found = tallies_within(net, [(0, 2)] * len(net[1]))
            for one, other in product(found[:12], repeat=2):
                both = put_together(one, other)
                self.assertEqual(both, tuple([count + more for count, more in zip(one, other)]))
                self.assertIsNone(tally_error(net, both))
                self.assertEqual(less(both, other), one)
                rest = tuple([count - fewer for count, fewer in zip(one, other)])
                if min(rest) < 0:
                    self.assertEqual(answer(less, one, other), UNFIT)
                else:
                    self.assertEqual(less(one, other), rest)
                    self.assertIsNone(tally_error(net, rest))

    def test_the_ends_of_what_is_allowed(self):
        self.assertEqual(put_together((TOP - 1,), (1,)), (TOP,))
        self.assertEqual(put_together((TOP, TOP), (0, 0)), (TOP, TOP))
        self.assertEqual(answer(put_together, (0, 0, TOP), (5, 5, 1)), TOO_MANY)
        self.assertEqual(answer(put_together, (TOP, 0), (TOP, 0)), TOO_MANY)
        self.assertEqual(less((TOP, TOP), (TOP, TOP)), (0, 0))
        self.assertEqual(less((TOP,), (0,)), (TOP,))
        self.assertEqual(answer(less, (0, TOP), (0, TOP))[0], "returns")
        self.assertEqual(answer(less, (5, 5, 0), (5, 5, 1)), UNFIT)
        self.assertEqual(answer(less, (0,), (TOP,)), UNFIT)


def bad_text(place):
    return raised("BadText", place=place)


class Texts(unittest.TestCase):

    def test_texts_are_read_back(self):
        for net in some_nets():
            found = tallies_within(net, [(0, 2)] * len(net[1]))
            self.assertEqual(len({tally_text(tally) for tally in found}), len(found))
            for tally in found[:20]:
                self.assertTrue(TEXT.fullmatch(tally_text(tally)))
                self.assertEqual(repr(read_tally(net, tally_text(tally))), repr(tally))
        self.assertEqual(tally_text((TOP, 0)), "1" + "0" * 30 + " 0")
        self.assertEqual(read_tally(LINE, f"{TOP} {TOP}"), (TOP, TOP))
        self.assertEqual(read_tally((2, ((0, 1),) * 60), tally_text((TOP,) * 60)), (TOP,) * 60)
        self.assertEqual((tally_text((7,)), read_tally(DOOR, "0")), ("7", (0,)))

    def test_no_strings(self):
        for value in KINDS + ((12, 12), ["12 12"], ("12", "12")):
            if not isinstance(value, str):
                self.assertEqual(answer(read_tally, LINE, value), bad_text(0), value)

    def test_bad_texts(self):
        for text, place in (
                ("", 0), (" ", 0), (" 12 12", 0), ("12 012", 4), ("00 0", 1), ("12  12", 3), ("12 ", 3), ("12 12 ", 6),
                ("12\n12", 2), ("-1 1", 0), ("+1 1", 0), ("1 -1", 2), ("1,1", 1), ("1 1x", 3), ("a", 0), ("12 a", 3),
                ("1" * 32, 31), ("1" * 32 + " 1", 31), ("1 " + "2" * 32, 33), ("0" * 20000, 1), ("9" * 20000, 31),
                ("1_0 1", 1), ("1.0 1", 1), ("1 1;" + "z" * 9000, 3), ("1 2 3 4 5 ", 10), ("1 2 3 4 05", 9)):
            self.assertEqual(answer(read_tally, LINE, text), bad_text(place), text)

    def test_each_sign_put_in_and_each_sign_taken_out(self):
        text = "10 0 205"
        for at in range(len(text) + 1):
            for sign in "019 \nx-":
                self.check_text(text[:at] + sign + text[at:])
                self.check_text(text[:at] + sign + text[at + 1:])
            self.check_text(text[:at] + text[at + 1:])
            self.check_text(text[:at])

    def check_text(self, text):
        told = answer(read_tally, (3, ((0, 2),) * 3), text)
        if TEXT.fullmatch(text):
            self.assertNotEqual(told[1], "BadText", text)
        else:
            ends = [end for end in range(len(text) + 1) if TEXT.fullmatch(text[:end]) or TEXT.fullmatch(text[:end] + "0")]
            self.assertEqual(told, bad_text(max(ends)), text)

    def test_right_form_that_tells_no_tally(self):
        for text, error in (
                ("12 12 12", "form"), ("12", "form"), ("1 1" + " 1" * 9000, "form"), ("12 13", ("place", 1)),
                (f"{TOP + 1} {TOP + 1}", ("road", 0)), (f"0 {TOP + 1}", ("road", 1)), ("9" * 31 + " 1", ("road", 0)),
                ("9" * 31, "form")):
            self.assertEqual(answer(read_tally, LINE, text), raised("BadTally", error=error), text)


class Calls(unittest.TestCase):

    def test_by_place_by_name_and_again(self):
        for value in KINDS + (SOME, list(SOME), [12, [7]], (12, 7, 5, 7, [12]), (12, 7, {}, 7, 12)):
            check_calls(self, tally_error, ("net", "value"), (SQUARE, value))
            check_calls(self, read_tally, ("net", "value"), (SQUARE, value))
        for text in ("12 7 5 7 12", "12 7 5 7 13", "12 7 5 7 ", "1 1 1 1 1"):
            check_calls(self, read_tally, ("net", "value"), (SQUARE, text))
        for tally in (SOME, (0,) * 5, (TOP, 0, 0, TOP, 0)):
            check_calls(self, total, ("net", "tally"), (SQUARE, tally))
            check_calls(self, tally_text, ("tally",), (tally,))
            for place in range(4):
                check_calls(self, passing, ("net", "tally", "place"), (SQUARE, tally, place))
            for other in (SOME, (0,) * 5, (TOP, 0, 0, TOP, 0), (1, 0, 1, 0, 1)):
                check_calls(self, put_together, ("one", "other"), (tally, other))
                check_calls(self, less, ("one", "other"), (tally, other))


if __name__ == "__main__":
    unittest.main()
