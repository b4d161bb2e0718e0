"""Plans and their texts: [K1] to [K3]."""

import random
import unittest

from suretrips.nets import net_error
from suretrips.plans import plan_error, plan_text, read_plan
from suretrips.unrolling import unrolled
from tests.common import KINDS, NO_INTEGERS, answer, check_calls, raised, random_plan, some_plans

SHOP = (2, 3, ((-1, 0, 0), (0, 1, 1), (1, -1, 0), (0, -1, 0)))
IN = (-1, 0, 0)


class PlanError(unittest.TestCase):

    def check(self, value, error):
        self.assertEqual(plan_error(value), error, value)

    def test_plans(self):
        for plan in some_plans():
            self.check(plan, None)
            self.assertIsNone(net_error(unrolled(plan)))

    def test_form(self):
        for value in KINDS:
            self.check(value, "form")
            self.check((2, 3, value), ("door", 0) if is_some_tuple(value) else "form")
        for value in (SHOP[:2], list(SHOP), SHOP + (1,), (2, 3, list(SHOP[2])), (2, 3, ()), (2, 3, (IN,) * 61), (2, 3, {}), (0, 0, ()),
                      ("rooms", 3, []), (2, 3, None)):
            self.check(value, "form")

    def test_rooms_ahead_of_beats_ahead_of_doors(self):
        for value in NO_INTEGERS + (0, 7, -1, 10 ** 399):
            self.check((value, 3, SHOP[2]), "rooms")
            self.check((value, value, (value,)), "rooms")
            self.check((2, value, SHOP[2]), "beats")
            self.check((2, value, (value,)), "beats")
        for number in range(1, 7):
            self.check((number, 1, (IN,)), None)
            self.check((1, number, (IN,)), None)
        self.check((7, 1, (IN,)), "rooms")
        self.check((1, 7, (IN,)), "beats")

    def test_each_door_of_two_rooms(self):
        for one in range(-2, 4):
            for other in range(-2, 4):
                for time in range(-1, 9):
                    is_outer = (one, other) in ((-1, 0), (-1, 1), (0, -1), (1, -1)) and time == 0
                    is_inner = (one, other) in ((0, 1), (1, 0)) and 1 <= time <= 6
                    self.check((2, 3, (IN, (one, other, time))), None if is_outer or is_inner else ("door", 1))

    def test_no_doors(self):
        for value in KINDS:
            # One of them is a door.
            self.check((2, 3, (IN, value, None)), ("door", 2 if value == (0, 1, 2) else 1))
        for value in NO_INTEGERS + (10 ** 399,):
            for door in ((value, 0, 0), (value, 0, 1), (-1, value, 0), (0, value, 1), (0, -1, value), (0, 1, value), (-1, 0, value)):
                self.check((2, 3, (IN, IN, door, None)), ("door", 2))
        for door in ((0, 1), (0, 1, 1, 1), [0, 1, 1], (), (0, 1, True), (0, True, 1), (False, 1, 1), (-1, 0, False), "0>1", (-1, 0)):
            self.check((2, 3, (door,)), ("door", 0))
        self.check((6, 6, (IN,) * 59 + (None,)), ("door", 59))

    def test_just_at_and_beyond_the_greatest_number_of_places(self):
        for rooms in range(1, 7):
            for beats in range(1, 7):
                self.check((rooms, beats, (IN,)), None if rooms * beats <= 22 else "places")

    def test_just_at_and_beyond_the_greatest_number_of_roads(self):
        for rooms in range(1, 5):
            for beats in range(1, 6):
                for doors in range(1, 61):
                    roads = beats * doors + rooms * beats
                    self.check((rooms, beats, (IN,) * doors), None if roads <= 60 else "roads")
        # Doors have no road where they lead beyond the last beat.
        for time, most in ((1, 9), (2, 12), (3, 16), (4, 24), (5, 48), (6, 60)):
            for doors in range(1, 61):
                self.check((2, 6, ((0, 1, time),) * doors), None if doors <= most else "roads")
        self.check((1, 1, (IN,) * 59), None)
        self.check((1, 1, (IN,) * 60), "roads")
        self.check((6, 6, (IN,) * 60), "places")


def is_some_tuple(value):
    return isinstance(value, tuple) and 1 <= len(value) <= 60


class Texts(unittest.TestCase):

    def test_texts(self):
        for plan, text in ((SHOP, "2 3: in>0 0>1*1 1>out 0>out"), ((1, 1, (IN,)), "1 1: in>0"), ((6, 3, ((5, 0, 6), (0, 5, 2))), "6 3: 5>0*6 0>5*2"),
                           ((1, 6, ((0, -1, 0), IN)), "1 6: 0>out in>0")):
            self.assertEqual(plan_text(plan), text)
            self.assertEqual(read_plan(text), plan)

    def test_what_is_written_is_read(self):
        texts = {}
        for plan in some_plans():
            text = plan_text(plan)
            self.assertEqual(read_plan(text), plan)
            self.assertEqual(texts.setdefault(text, plan), plan)

    def test_bad_text(self):
        for text, place in (
                ("", 0), ("2", 1), ("2 ", 2), ("2 3", 3), ("2 3:", 4), ("2 3: ", 5), ("2  3: in>0", 2), (" 2 3: in>0", 0), ("a 3: in>0", 0),
                ("2:3 in>0", 1), ("2 3 in>0", 3), ("2 3:in>0", 4), ("2 3:  in>0", 5), ("02 3: in>0", 1), ("2 03: in>0", 3), ("123 3: in>0", 2),
                ("2 123: in>0", 4), ("2 3: in>0 ", 10), ("2 3: in>0\n", 9), ("2 3: in>0  0>out", 10), ("2 3: in>0;", 9), ("2 3: in>00", 9),
                ("2 3: in>123", 10), ("2 3: out>0", 5), ("2 3: i", 6), ("2 3: in", 7), ("2 3: in>", 8), ("2 3: io>0", 6), ("2 3: in 0", 7),
                ("2 3: in>in", 8), ("2 3: in>out", 8), ("2 3: In>0", 5), ("2 3: in>-1", 8), ("2 3: -1>0*0", 5), ("2 3: 0", 6), ("2 3: 0>", 7),
                ("2 3: 0>o", 8), ("2 3: 0>ou", 9), ("2 3: 0>out*1", 10), ("2 3: 0>ot", 8), ("2 3: 0>oux", 9), ("2 3: 0>in", 7), ("2 3: 0>1", 8),
                ("2 3: 0>1*", 9), ("2 3: 0>1 *1", 8), ("2 3: 0>1*123", 11), ("2 3: 0>1*01", 10), ("2 3: 0>1*out", 9), ("2 3: 0>1*1 in", 13),
                ("2 3: 0*1>1", 6), ("2 3: 12>3*4 123>1", 14), ("2 3: 0>1*1in>0", 10), ("2 3: in>0 x", 10), ("2 3: in>0, 0>out", 9)):
            self.assertEqual(answer(read_plan, text), raised("BadText", place=place), text)

    def test_each_sign_spoilt(self):
        text = plan_text(SHOP)
        for at in range(len(text)):
            self.assertEqual(answer(read_plan, text[:at] + "#" + text[at + 1:]), raised("BadText", place=at))
            if at not in (9, 15, 21):
                self.assertEqual(answer(read_plan, text[:at]), raised("BadText", place=at))
            else:
                self.assertEqual(answer(read_plan, text[:at])[0], "returns")

    def test_no_string(self):
        for value in KINDS + (SHOP, 5):
            if not isinstance(value, str):
                self.assertEqual(answer(read_plan, value), raised("BadText", place=0))

    def test_what_is_told_is_no_plan(self):
        for text, error in (("0 3: in>0", "rooms"), ("7 3: in>9", "rooms"), ("99 99: in>0", "rooms"), ("2 0: in>0", "beats"), ("2 10: in>0", "beats"),
                            ("2 3: in>0 0>1*0", ("door", 1)), ("2 3: in>2", ("door", 0)), ("2 3: in>0 2>out", ("door", 1)), ("2 3: 0>0*1", ("door", 0)),
                            ("2 3: 0>2*1", ("door", 0)), ("2 3: 0>1*7", ("door", 0)), ("2 3: in>0 0>1*10", ("door", 1)), ("6 4: in>0", "places"),
                            ("2 6:" + " in>0" * 9, "roads"), ("2 3:" + " in>0" * 61, "form"), ("9 9:" + " in>0" * 61, "form")):
            self.assertEqual(answer(read_plan, text), raised("BadNet", error=error), text)

    def test_form_ahead_of_what_is_told(self):
        self.assertEqual(answer(read_plan, "9 9: in>0 "), raised("BadText", place=10))
        self.assertEqual(answer(read_plan, "0 0: 0>0*0 in>0*1"), raised("BadText", place=15))


class Calls(unittest.TestCase):

    def test_by_place_by_name_and_again(self):
        chance = random.Random(99)
        for value in KINDS + (SHOP, list(SHOP), "2 3: in>0", "2 3: in>out", "2 3: in>7", (2, 3, [IN])):
            for function in (plan_error, read_plan):
                check_calls(self, function, ("value",), (value,))
        for plan in [random_plan(chance, 6, 6, 12) for _ in range(20)]:
            check_calls(self, plan_text, ("plan",), (plan,))


if __name__ == "__main__":
    unittest.main()
