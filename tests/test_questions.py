"""Questions: [F1] and [F2]."""

import random
import unittest

from suretrips.nets import trip_count
from suretrips.questions import question_error, taken, takes
from tests.common import (KINDS, NO_INTEGERS, all_questions, all_stretches, all_trips, chain, check_calls, great_tallies,
                          is_taken, numbers_of, random_net, random_question, shuffled, some_explained, subsets)

NET = (5, ((0, 1), (0, 1), (1, 2), (1, 3), (2, 3), (2, 4), (3, 4)))
TOLD = (((0, 2, 4, 6), 4), ((0, 3, 6), 1), ((1, 2, 5), 2), ((1, 3, 6), 1))


class QuestionError(unittest.TestCase):

    def check(self, value, error):
        self.assertEqual(question_error(NET, value), error, value)

    def test_questions(self):
        for question in all_questions(NET):
            self.check(question, None)
        net = (2, ((0, 1),) * 60)
        for question in (("touch", tuple(range(60))), ("both", 59, 0), ("along", (59,)), ("touch", (59,))):
            self.assertIsNone(question_error(net, question))
        self.assertIsNone(question_error(chain(23, 2), ("along", tuple(range(1, 46, 2)))))

    def test_form(self):
        for value in KINDS:
            self.check(value, "form")
            if value not in ("along", "touch"):
                self.check((value, (1,)), "form")
            self.check((value, 1, 2), "form")
        for word in ("along", "touch", "both", "near", "Along", "touch ", ""):
            self.check((word,), "form")
            self.check(word, "form")
            self.check([word, (1,)], "form")
            self.check((word, 1, 2, 3), "form")
        for value in (("along", 0, 2), ("along", (0, 2), ()), ("touch", 0, 2), ("touch", (0,), (2,)), ("both", 0), ("both", (0, 2)),
                      ["both", 0, 2], (["along"], (0,)), (("along",), (0,)), {"along": (0,)}):
            self.check(value, "form")

    def test_stretch(self):
        right = all_stretches(NET)
        for value in KINDS:
            if value not in right or any([type(road) is bool for road in value]):
                told = question_error(NET, ("along", value))
                self.assertEqual(told[0], "stretch")
                self.assertIs(type(told), tuple)
        for value, error in (([0, 2], "form"), ((), "form"), (None, "form"), ((0, 7), ("road", 1)), ((True, 2), ("road", 0)),
                             ((0, 4), ("joint", 1)), ((0, 2, 6), ("joint", 2)), ((0, 1, 9), ("road", 2))):
            self.check(("along", value), ("stretch", error))

    def test_marks(self):
        right = subsets(range(7))[1:]
        for value in KINDS:
            if value not in right or any([type(road) is bool for road in value]):
                self.check(("touch", value), "marks")
        for value in ((), [1], (1, 1), (5, 1), (1, 7), (-1, 2), (0, True), (None,), (1, None), ("1",), 1, {1: 1}, (0, 1, 1)):
            self.check(("touch", value), "marks")

    def test_road(self):
        for item in NO_INTEGERS + (-1, 7, 10 ** 399):
            self.check(("both", item, 2), "road")
            self.check(("both", 2, item), "road")
            self.check(("both", item, item), "road")


class Takes(unittest.TestCase):

    def test_each_question_of_small_nets(self):
        chance = random.Random(73)
        nets = [NET, chain(3, 2)] + [random_net(chance, chance.randint(2, 5), 7) for _ in range(30)]
        for net in nets:
            for trip in all_trips(net):
                for question in all_questions(net):
                    self.assertIs(takes(question, trip), is_taken(question, trip), (question, trip))

    def test_along(self):
        trip = (0, 2, 4, 6)
        for stretch in ((0,), (6,), (0, 2), (2, 4), (4, 6), (0, 2, 4), (2, 4, 6), trip):
            self.assertIs(takes(("along", stretch), trip), True)
        for stretch in ((1,), (1, 2), (0, 3), (2, 5), (3, 6), (1, 2, 4, 6), (2, 4, 6, 8)):
            self.assertIs(takes(("along", stretch), trip), False)
        self.assertIs(takes(("along", (4, 6, 7)), trip), False)

    def test_touch_and_both(self):
        trip = (0, 2, 5)
        self.assertEqual([takes(("touch", marks), trip) for marks in ((0,), (5,), (1, 5), (0, 2, 5), (1,), (1, 3, 4, 6))],
                         [True, True, True, True, False, False])
        self.assertEqual([takes(("both", one, other), trip) for one, other in ((0, 5), (5, 0), (2, 2), (0, 1), (1, 0), (1, 1))],
                         [True, True, True, False, False, False])


class Taken(unittest.TestCase):

    def test_taken_counts_times(self):
        for net, _, right in some_explained():
            for question in all_questions(net)[::3]:
                self.assertEqual([taken(question, told) for told in right], numbers_of(question, right))

    def test_nothing_is_taken_of_nothing(self):
        for question in all_questions(NET):
            self.assertEqual(taken(question, ()), 0)

    def test_great_times(self):
        chance = random.Random(74)
        for net, tally in great_tallies():
            told = shuffled(chance, net, tally, 30)
            if trip_count(net):
                question = random_question(chance, net)
                self.assertEqual(taken(question, told), numbers_of(question, [told])[0])
        self.assertEqual(taken(("both", 0, 6), (((0, 2, 4, 6), 10 ** 30), ((0, 3, 6), 10 ** 30))), 2 * 10 ** 30)


class Calls(unittest.TestCase):

    def test_by_place_by_name_and_again(self):
        for value in KINDS + (("along", (0, 2)), ("along", [0]), ("touch", (1, 5)), ("both", 0, True), ("both", 0, 6)):
            check_calls(self, question_error, ("net", "value"), (NET, value))
        for question in all_questions(NET)[::5]:
            check_calls(self, takes, ("question", "trip"), (question, (0, 2, 4, 6)))
            check_calls(self, taken, ("question", "told"), (question, TOLD))


if __name__ == "__main__":
    unittest.main()
