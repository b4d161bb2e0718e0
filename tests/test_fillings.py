"""Holes, fillings, bars and what holes are narrowed to: [B5] to [B7], and of [B8] what it says of them."""

import random
import unittest
from itertools import combinations

from suretrips.fillings import bar_error, filled, holes_error, is_within, narrowed, no_filling
from suretrips.tallies import tally_error
from tests.common import (KINDS, NO_INTEGERS, answer, chain, check_calls, raised, random_net, search_within,
                          small_holes)

SQUARE = (4, ((0, 1), (0, 2), (1, 2), (1, 3), (2, 3)))
LINE = (3, ((0, 1), (1, 2)))
HOLES = ((12, 12), (0, None), (5, 5), (0, None), (10, 20))
TIGHT = ((4, 4), (1, 1), (0, 0), (0, 2), (0, None))
ODD = ((3, 3), (0, 0), (5, 5), (0, None), (0, None))
TOP = 10 ** 28
UNFIT = raised("Unfit")


def narrowed_by(net, holes, found):
    """What narrowed has to tell, by the tallies that were found by search."""
    highs = sum([high for _, high in holes if high is not None])
    told = []
    for road in range(len(net[1])):
        greatest = max([tally[road] for tally in found])
        told.append((min([tally[road] for tally in found]), None if greatest > highs else greatest))
    return tuple(told)


def places_of(many):
    return [places for length in range(many + 1) for places in combinations(range(many), length)]


def is_bar(net, holes, places):
    """Whether places are a bar, word by word as the document tells."""
    many, roads = net
    if many - 1 in places and 0 not in places:
        return False
    highs = [holes[road][1] for road, (foot, head) in enumerate(roads) if foot in places and head not in places]
    lows = [holes[road][0] for road, (foot, head) in enumerate(roads) if head in places and foot not in places]
    return None not in highs and sum(lows) > sum(highs)


class Holes(unittest.TestCase):

    def test_holes(self):
        for net, holes in ((SQUARE, HOLES), (SQUARE, TIGHT), (LINE, ((0, TOP), (TOP, TOP))), (LINE, ((TOP, None), (0, 0))),
                           ((2, ((0, 1),) * 60), ((0, None),) * 60), (chain(23, 2), ((TOP, TOP),) * 46)):
            self.assertIsNone(holes_error(net, holes))

    def test_form(self):
        for value in KINDS:
            if not isinstance(value, tuple) or len(value) != 2:
                self.assertEqual(holes_error(LINE, value), "form", value)
        for value in (HOLES[:4], HOLES + ((0, 0),), list(HOLES), dict(HOLES), ()):
            self.assertEqual(holes_error(SQUARE, value), "form")

    def test_road(self):
        for hole in KINDS:
            if repr(hole) not in ("(0, 1)", "(0, None)"):
                self.assertEqual(holes_error(LINE, ((0, 0), hole)), ("road", 1), hole)
        for hole in ((3, 2), (-1, 0), (-2, -1), (0, -1), (0, TOP + 1), (TOP + 1, TOP + 1), (TOP + 1, None), (None, None),
                     (None, 3), [0, 1], (0,), (0, 1, 2), (TOP, TOP - 1)):
            self.assertEqual(holes_error(LINE, ((0, 0), hole)), ("road", 1), hole)
            self.assertEqual(holes_error(LINE, (hole, hole)), ("road", 0), hole)
        for item in NO_INTEGERS:
            self.assertEqual(holes_error(LINE, ((item, None), (0, 0))), ("road", 0), item)
            if item is not None:
                self.assertEqual(holes_error(LINE, ((0, item), (0, 0))), ("road", 0), item)

    def test_the_first_error_is_told(self):
        self.assertEqual(holes_error(LINE, [(3, 2), (0, 0)]), "form")
        self.assertEqual(holes_error(LINE, ((3, 2),)), "form")
        self.assertEqual(holes_error(LINE, ((0, 0), (3, 2))), ("road", 1))

    def test_is_within(self):
        self.assertIs(is_within(((1, 2), (0, None)), (1, 10 ** 30)), True)
        self.assertIs(is_within(((1, 2), (0, None)), (2, 0)), True)
        self.assertIs(is_within(((1, 2), (0, None)), (0, 0)), False)
        self.assertIs(is_within(((1, 2), (0, None)), (3, 0)), False)
        self.assertIs(is_within(((0, 0), (5, None)), (0, 4)), False)
        self.assertIs(is_within(((0, 0), (5, None)), (1, 5)), False)
        self.assertIs(is_within(((TOP, TOP),), (TOP,)), True)
        self.assertIs(is_within(((TOP, TOP),), (TOP + 1,)), False)


class Fillings(unittest.TestCase):

    def check_filled(self, net, holes):
        tally = filled(net, holes)
        self.assertIsNone(tally_error(net, tally), (net, holes))
        self.assertTrue(is_within(holes, tally), (net, holes))
        self.assertIsNone(no_filling(net, holes))
        return tally

    def check_barred(self, net, holes):
        self.assertEqual(answer(filled, net, holes), UNFIT)
        self.assertEqual(answer(narrowed, net, holes), UNFIT)
        bar = no_filling(net, holes)
        self.assertIsNone(bar_error(net, holes, bar), (net, holes))
        self.assertTrue(is_bar(net, holes, bar))

    def test_beside_a_search(self):
        met = [0, 0]
        for net, holes in small_holes():
            found = search_within(net, holes)
            bars = [places for places in places_of(net[0]) if is_bar(net, holes, places)]
            self.assertIs(bool(bars), not found, (net, holes))
            met[bool(found)] += 1
            if found:
                self.check_filled(net, holes)
                self.assertEqual(narrowed(net, holes), narrowed_by(net, holes, found), (net, holes))
            else:
                self.check_barred(net, holes)
                self.assertIn(no_filling(net, holes), bars)
        self.assertGreater(min(met), 100)

    def test_bars_that_are_the_only_ones(self):
        self.assertEqual(no_filling(SQUARE, TIGHT), (1,))
        self.assertEqual(no_filling(SQUARE, ODD), (0, 2, 3))
        self.assertEqual(no_filling((3, ((1, 2),)), ((1, None),)), (0, 2))
        self.assertEqual(no_filling((3, ((0, 1),)), ((1, None),)), (1,))

    def test_great_holes(self):
        for net in (chain(23, 2), (2, ((0, 1),) * 60), (3, ((0, 1),) * 30 + ((1, 2),) * 30), chain(12, 5), SQUARE):
            roads = len(net[1])
            for hole in ((TOP, TOP), (TOP, None), (0, TOP), (0, None), (0, 0), (TOP - 1, TOP)):
                if net == SQUARE and hole == (TOP, TOP):
                    self.check_barred(net, (hole,) * roads)
                elif net != SQUARE:
                    self.check_filled(net, (hole,) * roads)
            self.check_filled(net, ((TOP, None),) * roads)
        lines = (24, ((0, 1), (22, 23)) + ((1, 22),) * 58)
        self.assertEqual(self.check_filled(lines, ((0, None),) * 2 + ((TOP, None),) * 58), (58 * TOP,) * 2 + (TOP,) * 58)
        self.check_barred(lines, ((0, None), (0, TOP)) + ((TOP, None),) * 58)
        self.check_barred(chain(23, 2), ((TOP, TOP), (TOP, TOP - 1 + 1)) + ((0, TOP), (0, TOP - 1)) + ((0, None),) * 42)

    def test_great_random_holes(self):
        chance = random.Random(5)
        met = [0, 0]
        for _ in range(150):
            net = random_net(chance, chance.randint(3, 24), 60)
            holes = []
            for _ in net[1]:
                low = chance.choice((0, 0, 0, 0, 0, 0, chance.randint(0, TOP // 9)))
                holes.append((low, chance.choice((None, None, TOP, chance.randint(low, TOP), chance.randint(low, TOP)))))
            holes = tuple(holes)
            self.assertIsNone(holes_error(net, holes))
            fits = answer(filled, net, holes) != UNFIT
            met[fits] += 1
            if fits:
                self.check_filled(net, holes)
            else:
                self.check_barred(net, holes)
        self.assertGreater(min(met), 15)

    def test_nets_without_trips(self):
        for net in ((3, ((1, 2),)), (24, ((0, 1),)), (4, ((1, 2), (1, 2)))):
            roads = len(net[1])
            self.assertEqual(filled(net, ((0, None),) * roads), (0,) * roads)
            self.assertEqual(narrowed(net, ((0, None),) * roads), ((0, 0),) * roads)
            self.check_barred(net, ((1, None),) * roads)


class BarError(unittest.TestCase):

    def test_none_of_just_the_bars(self):
        for net, holes in small_holes()[::5]:
            for places in places_of(net[0]):
                self.assertIs(bar_error(net, holes, places) is None, is_bar(net, holes, places))

    def test_form(self):
        for value in KINDS:
            if value not in ((), (0,), (0, 1), (0, 1, 2)) or any([type(item) is bool for item in value]):
                self.assertEqual(bar_error(SQUARE, TIGHT, value), "form", value)
        for value in ((1, 0), (1, 1), (4,), (-1, 1), (0, 4), [1], {1: 1}, (1, None), (0, 1, True), ("1",), "1"):
            self.assertEqual(bar_error(SQUARE, TIGHT, value), "form", value)
        for item in NO_INTEGERS:
            self.assertEqual(bar_error(SQUARE, TIGHT, (0, item)), "form", item)

    def test_out_open_and_little(self):
        holes = ((3, 3), (0, None), (1, None), (0, None), (0, 4))
        self.assertEqual(bar_error(SQUARE, holes, (1, 2, 3)), "out")
        self.assertEqual(bar_error(SQUARE, holes, (3,)), "out")
        self.assertEqual(bar_error(SQUARE, holes, (0,)), ("open", 1))
        self.assertEqual(bar_error(SQUARE, holes, (0, 1)), ("open", 1))
        self.assertEqual(bar_error(SQUARE, holes, (1,)), ("open", 2))
        self.assertEqual(bar_error(SQUARE, holes, (1, 2)), ("open", 3))
        self.assertEqual(bar_error(SQUARE, holes, (2,)), "little")
        self.assertEqual(bar_error(SQUARE, holes, ()), "little")
        self.assertEqual(bar_error(SQUARE, holes, (0, 1, 2, 3)), "little")

    def test_the_lows_have_to_be_more_than_the_highs(self):
        for low, error in ((4, "little"), (5, "little"), (6, None)):
            self.assertEqual(bar_error(LINE, ((low, None), (0, 5)), (1,)), error)
        self.assertEqual(bar_error(LINE, ((0, 5), (6, None)), (0, 2)), None)

    def test_the_first_error_is_told(self):
        open_holes = ((0, None),) * 5
        self.assertEqual(bar_error(SQUARE, open_holes, (3, 1)), "form")
        self.assertEqual(bar_error(SQUARE, open_holes, (1, 3)), "out")
        self.assertEqual(bar_error(SQUARE, open_holes, (1,)), ("open", 2))


class Narrowed(unittest.TestCase):

    def test_narrowed_again(self):
        for net, holes in small_holes():
            if no_filling(net, holes) is None:
                told = narrowed(net, holes)
                self.assertIsNone(holes_error(net, told))
                self.assertEqual(narrowed(net, told), told)
                self.assertEqual([tally for tally in search_within(net, holes) if not is_within(told, tally)], [])

    def test_all_counts_between_come(self):
        for net, holes in small_holes()[::4]:
            if no_filling(net, holes) is not None:
                continue
            for road, (least, greatest) in enumerate(narrowed(net, holes)):
                counts = list(range(least, 9 if greatest is None else greatest + 1))
                for count in counts + ([TOP] if greatest is None else []):
                    tally = filled(net, holes[:road] + ((count, count),) + holes[road + 1:])
                    self.assertTrue(is_within(holes, tally))
                for count in [least - 1] * (least > 0) + ([] if greatest is None else [greatest + 1]):
                    further = holes[:road] + ((count, count),) + holes[road + 1:]
                    self.assertTrue(answer(filled, net, further) == UNFIT or not is_within(holes, filled(net, further)))

    def test_all_alike_is_one_tally(self):
        met = 0
        for net, holes in small_holes():
            if no_filling(net, holes) is None and all([low == high for low, high in narrowed(net, holes)]):
                self.assertEqual(search_within(net, holes), [filled(net, holes)])
                met += 1
        self.assertGreater(met, 20)

    def test_great_holes(self):
        self.assertEqual(narrowed(LINE, ((0, TOP), (TOP - 1, None))), ((TOP - 1, TOP),) * 2)
        self.assertEqual(narrowed((2, ((0, 1),) * 60), ((TOP, None),) * 60), ((TOP, None),) * 60)
        self.assertEqual(narrowed((2, ((0, 1),) * 60), ((0, TOP),) * 60), ((0, TOP),) * 60)
        lines = (24, ((0, 1), (22, 23)) + ((1, 22),) * 58)
        self.assertEqual(narrowed(lines, ((0, None),) * 2 + ((0, TOP),) * 58), ((0, 58 * TOP),) * 2 + ((0, TOP),) * 58)
        self.assertEqual(narrowed(lines, ((0, None), (0, TOP)) + ((0, None),) * 58), ((0, TOP),) * 60)
        self.assertEqual(narrowed(lines, ((0, None),) * 2 + ((3, None),) + ((0, TOP),) * 57),
                         ((3, None),) * 3 + ((0, TOP),) * 57)
        net = chain(23, 2)
        self.assertEqual(narrowed(net, ((TOP, TOP), (0, 1)) + ((0, None),) * 44), ((TOP, TOP), (0, 1)) + ((0, TOP + 1),) * 44)
        self.assertEqual(narrowed(net, ((7, None), (0, 1)) + ((0, None),) * 43 + ((2, 2),)),
                         ((7, None), (0, 1)) + ((0, None),) * 42 + ((5, None), (2, 2)))


class Calls(unittest.TestCase):

    def test_by_place_by_name_and_again(self):
        for value in KINDS + (HOLES, list(HOLES), HOLES[:4] + ([0, 1],), (1,), [1], (1, [2])):
            check_calls(self, holes_error, ("net", "value"), (SQUARE, value))
            check_calls(self, bar_error, ("net", "holes", "value"), (SQUARE, TIGHT, value))
        first = {}
        nets = [(SQUARE, HOLES), (SQUARE, TIGHT), (SQUARE, ODD), (LINE, ((3, 7), (7, None))), (chain(23, 2), ((1, None),) * 46)]
        for net, holes in nets * 2:
            for function in (filled, no_filling, narrowed):
                told = check_calls(self, function, ("net", "holes"), (net, holes))
                self.assertEqual(first.setdefault((function, net, holes), told), told)
            check_calls(self, is_within, ("holes", "tally"), (holes, (1,) * len(holes)))


if __name__ == "__main__":
    unittest.main()
