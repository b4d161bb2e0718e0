"""The least and the greatest number that a question takes: [F3], [F4], and of [F5] what it says of them."""

import random
import unittest

from suretrips.answering import door_table, least, most
from suretrips.nets import roads_from, roads_to, trip_count
from suretrips.stretches import least_along, most_along
from suretrips.tallies import put_together, total
from tests.common import (TOP, all_questions, asked_greatly, asked_often, chain, check_calls, great_tallies,
                          numbers_of, random_net, random_tally, some_explained, wide)

NET, TALLY = (5, ((0, 1), (0, 1), (1, 2), (1, 3), (2, 3), (2, 4), (3, 4))), (5, 3, 6, 2, 4, 2, 6)
CROSS = (3, ((0, 1), (0, 1), (1, 2), (1, 2)))


def ends(net, tally, question):
    return (least(net, tally, question), most(net, tally, question))


class LeastAndMost(unittest.TestCase):

    def test_beside_a_search_through_all_explanations(self):
        met = {}
        for net, tally, right, questions in asked_often():
            for question in questions:
                numbers = numbers_of(question, right)
                self.assertEqual(ends(net, tally, question), (min(numbers), max(numbers)), (net, tally, question))
                self.assertEqual(sorted(set(numbers)), list(range(min(numbers), max(numbers) + 1)))
                met[question[0], min(max(numbers) - min(numbers), 2)] = met.get((question[0], 2), 0) + 1
        self.assertEqual(len(met), 9)
        self.assertGreater(min([met[word, 2] for word in ("along", "touch", "both")]), 30)

    def test_all_questions_of_one_net(self):
        for net, tally, right in some_explained()[-12:]:
            for question in all_questions(net):
                numbers = numbers_of(question, right)
                self.assertEqual(ends(net, tally, question), (min(numbers), max(numbers)), (net, tally, question))

    def test_a_stretch(self):
        for net, tally, questions in asked_greatly():
            for question in questions:
                if question[0] == "along":
                    self.assertEqual(least(net, tally, question), least_along(net, tally, question[1]))
                    self.assertEqual(most(net, tally, question), most_along(net, tally, question[1]))

    def test_one_road_in_each_way(self):
        for net, tally in great_tallies():
            for road in (0, len(tally) // 2, len(tally) - 1):
                for question in (("along", (road,)), ("touch", (road,)), ("both", road, road)):
                    self.assertEqual(ends(net, tally, question), (tally[road], tally[road]), (net, road))

    def test_all_roads_are_touched_by_all(self):
        for net, tally in great_tallies():
            everybody = total(net, tally)
            self.assertEqual(ends(net, tally, ("touch", tuple(range(len(tally))))), (everybody, everybody))

    def test_two_roads_of_which_none_is_ahead(self):
        for one, other in ((0, 1), (1, 0), (2, 3), (3, 2), (4, 5), (3, 4), (5, 6)):
            self.assertEqual(ends(NET, TALLY, ("both", one, other)), (0, 0))
            self.assertEqual(ends(NET, (TOP,) * 7, ("both", one, other)), (0, 0))

    def test_which_road_is_told_first_tells_nothing(self):
        for net, tally, questions in asked_greatly():
            for question in questions:
                if question[0] == "both":
                    self.assertEqual(ends(net, tally, question), ends(net, tally, ("both", question[2], question[1])))

    def test_head_and_foot_that_are_one_place(self):
        self.assertEqual(ends(CROSS, (3, 2, 4, 1), ("both", 0, 2)), (2, 3))
        self.assertEqual(ends(CROSS, (3, 2, 4, 1), ("both", 3, 1)), (0, 1))
        self.assertEqual(ends(CROSS, (TOP, TOP - 1, TOP, TOP - 1), ("both", 2, 0)), (1, TOP))

    def test_what_goes_between_is_few(self):
        net = (6, ((0, 1), (0, 2), (1, 2), (1, 3), (2, 3), (3, 4), (3, 5), (4, 5)))
        tally = (9, 6, 2, 7, 8, 5, 10, 5)
        self.assertEqual(most(net, tally, ("both", 0, 4)), 2)
        self.assertEqual(most(net, tally, ("both", 4, 7)), 5)
        self.assertEqual(least(net, tally, ("both", 4, 7)), 0)

    def test_tallies_of_noughts_and_nets_without_trips(self):
        for net in (NET, CROSS, chain(23, 2), (3, ((1, 2), (1, 2))), (4, ((0, 1), (2, 3))), (2, ((0, 1),) * 60)):
            tally = (0,) * len(net[1])
            questions = [("touch", tuple(range(len(tally)))), ("both", 0, len(tally) - 1), ("both", 0, 0), ("along", (0,))]
            for question in questions + (all_questions(net) if len(tally) < 8 else []):
                self.assertEqual(ends(net, tally, question), (0, 0))

    def test_counts_many_times_as_great(self):
        for net, tally, right, questions in asked_often()[::3]:
            for factor in (2, 10 ** 28 + 7):
                great = tuple([factor * count for count in tally])
                for question in questions[::3]:
                    few, many = ends(net, tally, question)
                    self.assertEqual(ends(net, great, question), (factor * few, factor * many))

    def test_of_two_tallies_put_together(self):
        chance = random.Random(81)
        for net, tally, questions in asked_greatly():
            other = random_tally(chance, net, 9, 10 ** 9)
            if max(tally) < TOP // 2:
                both = put_together(tally, other)
                for question in questions:
                    self.assertLessEqual(least(net, both, question), least(net, tally, question) + least(net, other, question))
                    self.assertGreaterEqual(most(net, both, question), most(net, tally, question) + most(net, other, question))

    def test_great_counts(self):
        net = chain(23, 2)
        self.assertEqual(ends(net, (TOP,) * 46, ("both", 0, 45)), (0, TOP))
        self.assertEqual(ends(net, (TOP - 1, 1) * 23, ("both", 44, 0)), (TOP - 2, TOP - 1))
        self.assertEqual(ends(net, (TOP - 1, 1) * 23, ("both", 1, 45)), (0, 1))
        self.assertEqual(ends(net, (TOP - 1, 1) * 23, ("touch", tuple(range(1, 46, 2)))), (1, 23))
        self.assertEqual(ends(net, (TOP - 1, 1) * 23, ("touch", tuple(range(0, 46, 2)))), (TOP - 1, TOP))
        self.assertEqual(ends(wide(30, 30), (TOP,) * 60, ("touch", (0, 1, 30, 31, 32))), (3 * TOP, 5 * TOP))


class DoorTable(unittest.TestCase):

    def check(self, net, tally):
        ways_in, ways_out = roads_from(net, 0), roads_to(net, net[0] - 1)
        self.assertEqual(door_table(net, tally),
                         tuple([tuple([ends(net, tally, ("both", one, other)) for other in ways_out]) for one in ways_in]))

    def test_each_pair_of_doors(self):
        chance = random.Random(82)
        for net, tally, _ in some_explained()[::2]:
            self.check(net, tally)
        for _ in range(40):
            net = random_net(chance, chance.randint(2, 24), 60)
            if trip_count(net):
                self.check(net, random_tally(chance, net, 30, TOP // 40))

    def test_no_road_from_in_or_to_out(self):
        self.assertEqual(door_table((3, ((1, 2),)), (0,)), ())
        self.assertEqual(door_table((3, ((0, 1), (0, 1))), (0, 0)), ((), ()))
        self.assertEqual(door_table((4, ((1, 2),)), (0,)), ())

    def test_roads_from_in_to_out(self):
        self.assertEqual(door_table((2, ((0, 1), (0, 1))), (3, TOP)), (((3, 3), (0, 0)), ((0, 0), (TOP, TOP))))
        self.assertEqual(door_table((3, ((0, 2), (0, 1), (1, 2))), (3, 4, 4)), (((3, 3), (0, 0)), ((0, 0), (4, 4))))

    def test_as_many_doors_as_there_can_be(self):
        table = door_table(wide(30, 30), tuple([10 ** 28 + road for road in range(30)] * 2))
        self.assertEqual([len(row) for row in table], [30] * 30)
        self.assertEqual(table[29][29], (0, 10 ** 28 + 29))
        self.assertEqual(table[3][20], (0, 10 ** 28 + 3))


class Calls(unittest.TestCase):

    def test_by_place_by_name_and_again(self):
        first = {}
        for net, tally, questions in asked_greatly()[::5] * 2:
            for question in questions[::2]:
                for function in (least, most):
                    told = check_calls(self, function, ("net", "tally", "question"), (net, tally, question))
                    self.assertEqual(first.setdefault((function, net, tally, question), told), told)
        for net, tally in ((NET, TALLY), (CROSS, (3, 2, 4, 1)), (NET, (0,) * 7), (NET, TALLY)):
            told = check_calls(self, door_table, ("net", "tally"), (net, tally))
            self.assertEqual(first.setdefault((net, tally), told), told)

    def test_in_any_order(self):
        cases = [(net, tally, question) for net, tally, questions in asked_greatly()[::3] for question in questions[::4]]
        ahead = [ends(*case) for case in cases]
        self.assertEqual([ends(*case) for case in reversed(cases)], ahead[::-1])
        self.assertEqual([most(*case) for case in cases], [many for _, many in ahead])
        self.assertEqual([least(*case) for case in cases], [few for few, _ in ahead])


if __name__ == "__main__":
    unittest.main()
