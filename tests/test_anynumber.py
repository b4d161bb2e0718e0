"""Explanations with any number between: [G4], and of [G5] what it says of them."""

import random
import unittest

from suretrips.answering import least, most
from suretrips.anynumber import with_number
from suretrips.explaining import explanation_error
from suretrips.nets import trip_count
from suretrips.questions import taken
from tests.common import (TOP, all_questions, answer, asked_greatly, asked_often, chain, check_calls, raised,
                          random_net, random_question, random_tally, some_explained, wide)

NET, TALLY = (5, ((0, 1), (0, 1), (1, 2), (1, 3), (2, 3), (2, 4), (3, 4))), (5, 3, 6, 2, 4, 2, 6)
CROSS = (3, ((0, 1), (0, 1), (1, 2), (1, 2)))
UNFIT = raised("Unfit")


def numbers_between(few, many):
    """Numbers from few to many: all, or some at the ends and between."""
    if many - few < 30:
        return list(range(few, many + 1))
    wide_step = (many - few) // 5
    return [few, few + 1, few + 2, *range(few + wide_step, many - 1, wide_step), many - 1, many]


class WithNumber(unittest.TestCase):

    def check_each(self, net, tally, question):
        few, many = least(net, tally, question), most(net, tally, question)
        for number in numbers_between(few, many):
            told = with_number(net, tally, question, number)
            self.assertIsNone(explanation_error(net, tally, told), (net, tally, question, number))
            self.assertEqual(taken(question, told), number, (net, tally, question))
            self.assertLessEqual(len(told), 200)
        self.check_unfit(net, tally, question, few - 1, many + 1, -1, -TOP, 10 ** 40)
        return few, many

    def check_unfit(self, net, tally, question, *numbers):
        for number in numbers:
            self.assertEqual(answer(with_number, net, tally, question, number), UNFIT)

    def test_each_number_of_small_tallies(self):
        met = {}
        for net, tally, right, questions in asked_often():
            for question in questions:
                few, many = self.check_each(net, tally, question)
                self.assertIn(with_number(net, tally, question, few), right)
                self.assertIn(with_number(net, tally, question, many), right)
                met[question[0], min(many - few, 2)] = True
        self.assertEqual(len(met), 9)

    def test_each_question_of_one_net(self):
        for net, tally, _ in some_explained()[-6:] + [(NET, TALLY, None)]:
            for question in all_questions(net):
                self.check_each(net, tally, question)

    def test_great_tallies(self):
        wide_ones = 0
        for net, tally, questions in asked_greatly():
            for question in questions:
                few, many = self.check_each(net, tally, question)
                wide_ones += many - few > TOP // 10 ** 6
        self.assertGreater(wide_ones, 60)

    def test_great_random_nets(self):
        chance = random.Random(91)
        for _ in range(60):
            net = random_net(chance, chance.randint(3, 24), 60)
            if trip_count(net):
                tally = random_tally(chance, net, chance.randint(1, 60), TOP // 60)
                for _ in range(4):
                    self.check_each(net, tally, random_question(chance, net))

    def test_the_one_that_there_is(self):
        far = tuple([10 ** 29 * count for count in (3, 2, 4, 1)])
        for number in (2 * 10 ** 29, 2 * 10 ** 29 + 1, 3 * 10 ** 29 - 1, 3 * 10 ** 29):
            ways = (((0, 2), number), ((0, 3), far[0] - number), ((1, 2), far[2] - number), ((1, 3), far[3] - far[0] + number))
            wanted = tuple([way for way in ways if way[1]])
            for question in (("both", 0, 2), ("both", 2, 0), ("along", (0, 2))):
                self.assertEqual(with_number(CROSS, far, question, number), wanted)
            self.assertEqual(with_number(CROSS, far, ("touch", (0, 2)), far[0] + far[2] - number), wanted)

    def test_numbers_that_are_the_same_in_all(self):
        for net in (NET, CROSS, chain(23, 2), (3, ((1, 2),))):
            tally = (0,) * len(net[1])
            for question in (("touch", (0,)), ("both", 0, 0), ("both", 0, len(tally) - 1), ("along", (0,))):
                self.assertEqual(with_number(net, tally, question, 0), ())
                self.check_unfit(net, tally, question, 1, -1)
        for question, number in ((("both", 0, 1), 0), (("both", 4, 4), 4), (("touch", (0, 1)), 8), (("along", (5,)), 2)):
            self.assertEqual(self.check_each(NET, TALLY, question), (number, number))

    def test_as_many_unlike_trips_as_may_be(self):
        for net in (wide(30, 30), chain(12, 5), chain(3, 20), chain(23, 2)):
            tally = (10 ** 29,) * len(net[1])
            roads = len(tally)
            for question in (("touch", tuple(range(0, roads, 2))), ("both", 0, roads - 1), ("both", 3, roads - 7),
                             ("touch", tuple(range(5))), ("along", (roads - 1,))):
                self.check_each(net, tally, question)


class Calls(unittest.TestCase):

    def test_by_place_by_name_and_again(self):
        names = ("net", "tally", "question", "number")
        first = {}
        cases = [(net, tally, question) for net, tally, questions in asked_greatly()[::6] for question in questions[::3]]
        for net, tally, question in cases + cases[::-1]:
            for number in (least(net, tally, question), most(net, tally, question), -1):
                told = check_calls(self, with_number, names, (net, tally, question, number))
                self.assertEqual(first.setdefault((net, tally, question, number), told), told)


if __name__ == "__main__":
    unittest.main()
