"""Explanations: [C1] to [C3], and of [C6] what it says of them."""

import unittest
from itertools import product
from math import comb

from suretrips.explaining import all_explained, explained, explanation_error, settled, tally_of
from suretrips.nets import roads_to
from suretrips.tallies import less, put_together
from tests.common import (KINDS, NO_INTEGERS, TOP, all_explanations, all_trips, answer, chain, check_calls,
                          great_tallies, raised, small_tallies, wide)

NET, TALLY = (5, ((0, 1), (0, 1), (1, 2), (1, 3), (2, 3), (2, 4), (3, 4))), (5, 3, 6, 2, 4, 2, 6)
TOLD = (((0, 2, 4, 6), 4), ((0, 3, 6), 1), ((1, 2, 5), 2), ((1, 3, 6), 1))
CROSS = (3, ((0, 1), (0, 1), (1, 2), (1, 2)))
TOO_MANY = raised("TooMany", limit=1000)


def cross_somewhere(net, told):
    """Whether two trips of told come to one place with unlike heads and unlike tails there."""
    ends = [{0: 0, **{net[1][road][1]: at + 1 for at, road in enumerate(trip)}} for trip, _ in told]
    for (one, _), one_ends in zip(told, ends):
        for (other, _), other_ends in zip(told, ends):
            for place in one_ends.keys() & other_ends.keys():
                mine, theirs = one_ends[place], other_ends[place]
                if one[:mine] != other[:theirs] and one[mine:] != other[theirs:]:
                    return True
    return False


class ExplanationError(unittest.TestCase):

    def test_none_of_just_the_explanations(self):
        for net, tally in small_tallies()[::40]:
            trips = all_trips(net)
            right = all_explanations(net, tally)
            for told in right:
                self.assertIsNone(explanation_error(net, tally, told))
            for times in product(range(3), repeat=min(len(trips), 5)):
                told = tuple([(trip, many) for trip, many in zip(trips, times) if many])
                self.assertIs(explanation_error(net, tally, told) is None, told in right)

    def test_form(self):
        for value in KINDS:
            if repr(value) not in ("()", "((0, 1),)") and repr(value) != repr(((0, 1),) * 201):
                if not isinstance(value, tuple) or any([not isinstance(item, tuple) or len(item) != 2 for item in value]):
                    self.assertEqual(explanation_error(NET, TALLY, value), "form", value)
        for value in (list(TOLD), dict(TOLD), TOLD + (None,), TOLD + ((),), TOLD + (TOLD[0] + (1,),), ([(0, 3, 6), 1],),
                      (TOLD,), ((0, 3, 6), 1), "told", None):
            self.assertEqual(explanation_error(NET, TALLY, value), "form", value)

    def test_trip(self):
        for trip in KINDS + ((0, 2), (2, 4, 6), [0, 3, 6], (0, 3, 7), (0, 3, True), (0, 5)):
            self.assertEqual(explanation_error(NET, TALLY, ((trip, 1),)), ("trip", 0), trip)
            self.assertEqual(explanation_error(NET, TALLY, TOLD[:3] + ((trip, 1),)), ("trip", 3), trip)

    def test_times(self):
        for times in NO_INTEGERS + (0, -1, -10 ** 399):
            self.assertEqual(explanation_error(NET, TALLY, (((0, 2, 4, 6), times),)), ("times", 0), times)
            self.assertEqual(explanation_error(NET, TALLY, TOLD[:2] + (((1, 2, 5), times),)), ("times", 2), times)
        self.assertEqual(explanation_error(NET, TALLY, TOLD[:3] + (((1, 3, 6), 10 ** 399),)), ("road", 1))

    def test_order(self):
        self.assertEqual(explanation_error(NET, TALLY, TOLD[:2] + TOLD[1:]), ("order", 2))
        self.assertEqual(explanation_error(NET, TALLY, TOLD[:1] + TOLD[:0:-1]), ("order", 2))
        self.assertEqual(explanation_error(NET, TALLY, TOLD[:1] + TOLD[:1]), ("order", 1))

    def test_road(self):
        for road in range(7):
            other = TALLY[:road] + (TALLY[road] + 1,) + TALLY[road + 1:]
            self.assertEqual(explanation_error(NET, other, TOLD), ("road", road))
        self.assertEqual(explanation_error(NET, (0,) * 7, TOLD), ("road", 0))
        self.assertEqual(explanation_error(NET, TALLY, ()), ("road", 0))

    def test_the_first_error_is_told(self):
        bad_trip, bad_times = ((0, 2), 1), ((1, 3, 6), 0)
        self.assertEqual(explanation_error(NET, TALLY, (bad_trip, ())), "form")
        self.assertEqual(explanation_error(NET, TALLY, [bad_trip]), "form")
        self.assertEqual(explanation_error(NET, TALLY, (bad_times, bad_times, bad_trip)), ("trip", 2))
        self.assertEqual(explanation_error(NET, TALLY, TOLD[:1] * 2 + (bad_times,)), ("times", 2))
        self.assertEqual(explanation_error(NET, TALLY, (((1, 3, 6), 9), ((0, 3, 6), 9))), ("order", 1))
        self.assertEqual(explanation_error(NET, TALLY, (bad_trip,) * 201), "form")

    def test_200_and_201_pairs(self):
        net = wide(15, 15)
        trips = all_trips(net)
        for many, error in ((199, None), (200, None), (201, "form"), (225, "form")):
            told = tuple([(trip, 1) for trip in trips[:many]])
            self.assertEqual(explanation_error(net, tally_of(net, told), told), error)


class TallyOf(unittest.TestCase):

    def test_tally_of(self):
        self.assertEqual(tally_of(NET, ()), (0,) * 7)
        self.assertEqual(tally_of(NET, TOLD), TALLY)
        self.assertEqual(tally_of(NET, (((0, 2, 5), 10 ** 30), ((1, 2, 5), 10 ** 30))),
                         (10 ** 30, 10 ** 30, 2 * 10 ** 30, 0, 0, 2 * 10 ** 30, 0))
        self.assertEqual(tally_of(wide(30, 30), tuple([(trip, 2) for trip in all_trips(wide(30, 30))])), (60,) * 60)


class Explained(unittest.TestCase):

    def test_beside_a_search(self):
        for net, tally in small_tallies():
            right = all_explanations(net, tally)
            if len(right) <= 1000:
                self.assertEqual(all_explained(net, tally), tuple(right), (net, tally))
                self.assertIn(explained(net, tally), right)
                self.assertIs(settled(net, tally), len(right) == 1)
                self.assertLessEqual(len(explained(net, tally)), len(net[1]))

    def test_great_tallies_are_explained(self):
        for net, tally in great_tallies():
            told = explained(net, tally)
            self.assertIsNone(explanation_error(net, tally, told))
            self.assertLessEqual(len(told), len(net[1]))
            self.assertIs(settled(net, tally), not cross_somewhere(net, told))

    def test_settled_as_trips_of_any_explanation_tell(self):
        for net, tally in small_tallies():
            for told in all_explanations(net, tally):
                self.assertIs(settled(net, tally), not cross_somewhere(net, told), (net, tally, told))

    def test_nothing_to_be_explained(self):
        for net in (NET, CROSS, (3, ((1, 2),)), chain(23, 2), (2, ((0, 1),) * 60), (4, ((0, 1), (2, 3)))):
            tally = (0,) * len(net[1])
            self.assertEqual((explained(net, tally), all_explained(net, tally), settled(net, tally)), ((), ((),), True))

    def test_just_one_explanation_of_great_counts(self):
        for net, tally in ((chain(23, 2), (TOP, 0) * 23), (chain(23, 2), (TOP, TOP - 1) + (2 * TOP - 1, 0) * 22),
                           (wide(1, 59), (59 * TOP,) + (TOP,) * 59), ((2, ((0, 1),) * 60), (TOP,) * 60)):
            told = explained(net, tally)
            self.assertEqual(all_explained(net, tally), (told,))
            self.assertIs(settled(net, tally), True)
        self.assertEqual(explained((2, ((0, 1),) * 3), (TOP, 0, 5)), (((0,), TOP), ((2,), 5)))

    def test_the_roads_may_stand_in_any_order(self):
        net = (4, ((2, 3), (1, 2), (1, 2), (0, 1), (0, 1)))
        self.assertEqual(all_explained(net, (3, 1, 2, 2, 1)), tuple(all_explanations(net, (3, 1, 2, 2, 1))))
        self.assertIs(settled(net, (3, 1, 2, 2, 1)), False)
        self.assertIs(settled(net, (3, 3, 0, 2, 1)), True)


class AllExplained(unittest.TestCase):

    def test_how_many(self):
        for many in (1, 2, 997, 998, 999):
            found = all_explained(CROSS, (many,) * 4)
            self.assertEqual(len(found), many + 1)
            self.assertEqual(list(found), sorted(found))
            self.assertIs(settled(CROSS, (many,) * 4), False)
        for many in (1000, 1001, 10 ** 28, TOP):
            self.assertEqual(answer(all_explained, CROSS, (many,) * 4), TOO_MANY)
            self.assertIs(settled(CROSS, (many,) * 4), False)

    def test_all_of_a_thousand_are_explanations(self):
        wanted = []
        for part in range(1000):
            pairs = (((0, 2), part), ((0, 3), 999 - part), ((1, 2), 999 - part), ((1, 3), part))
            wanted.append(tuple([pair for pair in pairs if pair[1]]))
        self.assertEqual(all_explained(CROSS, (999,) * 4), tuple(sorted(wanted)))

    def test_few_explanations_of_great_counts(self):
        self.assertEqual(len(all_explained(CROSS, (TOP - 7, 7, TOP, 0))), 1)
        self.assertEqual(len(all_explained(CROSS, (TOP - 7, 7, 3, TOP - 3))), 4)
        self.assertEqual(len(all_explained(CROSS, (TOP - 999, 999, TOP - 2000, 2000))), 1000)
        self.assertEqual(answer(all_explained, CROSS, (TOP - 1000, 1000, TOP - 2000, 2000)), TOO_MANY)

    def test_chains(self):
        net = chain(23, 2)
        for lone, many in ((1, 1), (2, 2), (3, 5), (4, 15), (5, 52), (6, 203), (7, 877)):
            # Who else was who once went by a second road: so many ways are there to part those that did.
            tally = (TOP - 1, 1) * lone + (TOP, 0) * (23 - lone)
            self.assertEqual(len(all_explained(net, tally)), many)
        self.assertEqual(answer(all_explained, net, (TOP - 1, 1) * 8 + (TOP, 0) * 15), TOO_MANY)
        for parted in range(1, 24):
            tally = (2, 0) * (23 - parted) + (1, 1) * parted
            if parted <= 10:
                self.assertEqual(len(all_explained(net, tally)), 2 ** (parted - 1))
            else:
                self.assertEqual(answer(all_explained, net, tally), TOO_MANY)
            self.assertIs(settled(net, tally), parted == 1)

    def test_two_places_of_choice(self):
        net = (4, ((0, 1),) * 31 + ((1, 2),) * 2 + ((2, 3),) * 2)
        self.assertEqual(len(all_explained(net, (1,) * 31 + (30, 1, 30, 1))), 31 * 31)
        net = (4, ((0, 1),) * 32 + ((1, 2),) * 2 + ((2, 3),) * 2)
        self.assertEqual(answer(all_explained, net, (1,) * 32 + (31, 1, 31, 1)), TOO_MANY)
        self.assertEqual(len(all_explained(net, (1,) * 32 + (31, 1, 32, 0))), 32)
        self.assertEqual(len(all_explained(wide(12, 2), (1,) * 12 + (3, 9))), comb(12, 3))
        self.assertEqual(answer(all_explained, wide(30, 30), (1,) * 60), TOO_MANY)
        self.assertEqual(answer(all_explained, wide(30, 30), (TOP,) * 60), TOO_MANY)

    def test_the_same_beside_other_calls(self):
        first = [(answer(all_explained, net, tally), settled(net, tally)) for net, tally in great_tallies()]
        explained(NET, TALLY)
        self.assertEqual([(answer(all_explained, net, tally), settled(net, tally)) for net, tally in great_tallies()], first)


class WhatHolds(unittest.TestCase):

    def test_what_fits_into_a_tally_is_part_of_some_explanation(self):
        for net, tally in small_tallies()[::9]:
            right = [dict(told) for told in all_explanations(net, tally)]
            trips = all_trips(net)[:4]
            for times in product(range(3), repeat=len(trips)):
                lot = tuple([(trip, many) for trip, many in zip(trips, times) if many])
                fits = all([count <= most for count, most in zip(tally_of(net, lot), tally)])
                self.assertIs(any([all([told.get(trip, 0) >= many for trip, many in lot]) for told in right]), fits)
                if fits:
                    rest = less(tally, tally_of(net, lot))
                    self.assertEqual(put_together(tally_of(net, explained(net, rest)), tally_of(net, lot)), tally)

    def test_explanations_make_the_tally_at_each_place(self):
        for net, tally in great_tallies():
            told = explained(net, tally)
            self.assertEqual(tally_of(net, told), tally)
            self.assertEqual(sum([times for _, times in told]), sum([tally[road] for road in roads_to(net, net[0] - 1)]))


class Calls(unittest.TestCase):

    def test_by_place_by_name_and_again(self):
        for value in KINDS + (TOLD, list(TOLD), (([0, 3, 6], 1),), TOLD[:3], TOLD[::-1], (((0, 3, 6), [1]),)):
            check_calls(self, explanation_error, ("net", "tally", "value"), (NET, TALLY, value))
        for told in ((), TOLD, TOLD[1:]):
            check_calls(self, tally_of, ("net", "told"), (NET, told))
        first = {}
        cases = [(NET, TALLY), (CROSS, (3, 2, 4, 1)), (chain(23, 2), (TOP,) * 46), (chain(23, 2), (TOP, 0) * 23), (NET, (0,) * 7)]
        for net, tally in cases * 2:
            for function in (explained, all_explained, settled):
                told = check_calls(self, function, ("net", "tally"), (net, tally))
                self.assertEqual(first.setdefault((function, net, tally), told), told)


if __name__ == "__main__":
    unittest.main()
