"""The texts of nets: [A8], and [A9]."""

import re
import unittest

from suretrips.nets import net_error
from suretrips.nettexts import net_text, read_net
from tests.common import KINDS, answer, chain, check_calls, raised, small_nets, some_nets

NUMBER = "(0|[1-9][0-9]?)"
FORM = re.compile(f"{NUMBER}:( {NUMBER}>{NUMBER})+")


def bad_text(place):
    return raised("BadText", place=place)


class Texts(unittest.TestCase):

    def test_texts(self):
        self.assertEqual(net_text((2, ((0, 1),))), "2: 0>1")
        self.assertEqual(net_text((24, ((9, 10), (0, 23)))), "24: 9>10 0>23")
        self.assertEqual(net_text((4, ((0, 1), (0, 1), (2, 3)))), "4: 0>1 0>1 2>3")

    def test_read_back(self):
        nets = some_nets() + [chain(23, 2), (2, ((0, 1),) * 60), (24, ((0, 23), (22, 23)))]
        for net in nets:
            self.assertTrue(FORM.fullmatch(net_text(net)))
            self.assertEqual(repr(read_net(net_text(net))), repr(net))

    def test_unlike_nets_have_unlike_texts(self):
        nets = small_nets(2, 3) + small_nets(3, 3) + small_nets(4, 3)
        self.assertEqual(len({net_text(net) for net in nets}), len(nets))


class Reading(unittest.TestCase):

    def test_no_strings(self):
        for value in KINDS + (("2: 0>1",), ["2: 0>1"], (2, ((0, 1),))):
            if not isinstance(value, str):
                self.assertEqual(answer(read_net, value), bad_text(0), value)

    def test_text_that_ends_too_early(self):
        text = "12: 3>10 11>0"
        self.assertEqual(answer(read_net, text), raised("BadNet", error=("road", 1)))
        for end in (0, 1, 2, 3, 4, 5, 9, 10, 11, 12):
            self.assertEqual(answer(read_net, text[:end]), bad_text(end), text[:end])
        for end in (6, 7):
            self.assertEqual(answer(read_net, "12: 30>40"[:end]), bad_text(end))

    def test_signs_that_cannot_stand(self):
        for text, place in (
                ("5:0>1", 2), ("05: 0>1", 1), ("5 : 0>1", 1), (" 5: 0>1", 0), ("-5: 0>1", 0), ("x", 0), ("5: 0>1 ", 7),
                ("5: 0>1\n", 6), ("5: 0>1\n2>3", 6), ("5: 0>1,2>3", 6), ("5:  0>1", 3), ("5: 00>1", 4), ("5: 0>01", 6),
                ("5: 123>1", 5), ("5: 0>123", 7), ("123: 0>1", 2), ("5: 0-1", 4), ("5: 0 >1", 4), ("5: 0> 1", 5),
                ("5: 0>1  2>3", 7), ("5: 0>a", 5), (":", 0), (": 0>1", 0), ("5:: 0>1", 2), ("5: >1", 3), ("5: 0>>1", 5),
                ("5: 0>1:", 6), ("0" * 20000, 1), ("1" * 20000, 2), ("5: 0>1 2>3 x" + "y" * 9000, 11), ("5: 0>-1", 5)):
            self.assertEqual(answer(read_net, text), bad_text(place), text)

    def test_each_sign_put_in_and_each_sign_taken_out(self):
        for text in ("5: 0>1 10>2 0>12", "12: 1>11"):
            for at in range(len(text) + 1):
                for sign in "019: >\nax-":
                    self.check_text(text[:at] + sign + text[at:])
                    self.check_text(text[:at] + sign + text[at + 1:])
                self.check_text(text[:at] + text[at + 1:])

    def check_text(self, text):
        """Right texts are read; of others the place is told up to which some right text begins so."""
        told = answer(read_net, text)
        if FORM.fullmatch(text):
            self.assertNotEqual(told[1], "BadText", text)
        else:
            place = max([end for end in range(len(text) + 1) if self.can_begin(text[:end])])
            self.assertEqual(told, bad_text(place), text)

    def can_begin(self, text):
        ends = ("", "0", "0>0", ">0", " 0>0", ": 0>0", "0: 0>0")
        return any([FORM.fullmatch(text + end) for end in ends])

    def test_right_form_that_tells_no_net(self):
        for text, error in (
                ("5: 0>1 2>1", ("road", 1)), ("25: 0>1", "many"), ("1: 0>1", "many"), ("0: 0>1", "many"),
                ("99: 9>1", "many"), ("3: 1>1", ("road", 0)), ("3: 0>1 1>2 0>3", ("road", 2)), ("24: 0>24", ("road", 0)),
                ("2:" + " 0>1" * 61, "form"), ("1:" + " 1>0" * 61, "form"), ("2:" + " 0>1" * 4999, "form")):
            self.assertEqual(answer(read_net, text), raised("BadNet", error=error), text)
        self.assertEqual(read_net("2:" + " 0>1" * 60), (2, ((0, 1),) * 60))
        self.assertEqual(read_net("24: 22>23"), (24, ((22, 23),)))

    def test_the_form_is_told_ahead_of_the_net(self):
        self.assertEqual(answer(read_net, "99: 1>0 x"), bad_text(8))
        self.assertEqual(answer(read_net, "99:"), bad_text(3))

    def test_calls(self):
        for value in KINDS + ("5: 0>1", "5: 0>1 ", "25: 0>1", ["5: 0>1"]):
            check_calls(self, read_net, ("value",), (value,))
        for net in some_nets()[::9]:
            self.assertIsNone(net_error(net))
            check_calls(self, net_text, ("net",), (net,))


if __name__ == "__main__":
    unittest.main()
