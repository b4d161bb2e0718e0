"""Stretches: [D1] to [D4], and of [D5] what it says of them."""

import random
import unittest

from suretrips.nets import trip_at, trip_count
from suretrips.stretches import (excess, is_sure, least_along, least_through, most_along, most_through, stretch_error,
                                 sure_stretches)
from suretrips.tallies import put_together
from tests.common import (KINDS, NO_INTEGERS, TOP, all_stretches, answer, chain, check_calls, great_tallies, is_along,
                          random_net, random_tally, raised, search_within, small_holes, some_explained, wide)

RIVER, SEEN = (4, ((0, 1), (0, 1), (1, 2), (1, 3), (2, 3))), (5, 3, 6, 2, 6)
HOLE = 10 ** 28
UNFIT = raised("Unfit")


def numbers_along(right, stretch):
    """How many trips go along stretch in each of the explanations."""
    return [sum([times for trip, times in told if is_along(stretch, trip)]) for told in right]


def own_sure(net, tally):
    """What sure_stretches has to tell, word by word; excess as the document tells it."""
    sure = [stretch for stretch in all_stretches(net) if own_excess(net, tally, stretch) > 0]
    return tuple([one for one in sure if not any([one != other and is_along(one, other) for other in sure])])


def own_excess(net, tally, stretch):
    inner = [net[1][road][1] for road in stretch[:-1]]
    beside = [road for road, (foot, _) in enumerate(net[1]) if foot in inner and road not in stretch]
    return tally[stretch[0]] - sum([tally[road] for road in beside])


def excess_from_its_end(net, tally, stretch):
    inner = [net[1][road][0] for road in stretch[1:]]
    beside = [road for road, (_, head) in enumerate(net[1]) if head in inner and road not in stretch]
    return tally[stretch[-1]] - sum([tally[road] for road in beside])


def great_stretches():
    """Triples of a great net, a tally, and some stretches of it, short and long."""
    chance = random.Random(61)
    cases = []
    for net, tally in great_tallies():
        found = [(road,) for road in (0, len(net[1]) - 1)]
        for _ in range(6):
            trip = trip_at(net, chance.randrange(trip_count(net)))
            begin = chance.randrange(len(trip))
            found.append(trip[begin:chance.randint(begin + 1, len(trip))])
        cases.append((net, tally, found + [trip_at(net, 0)]))
    return cases


class StretchError(unittest.TestCase):

    def test_none_of_just_the_stretches(self):
        for net in (RIVER, chain(4, 2), (3, ((1, 2),)), (5, ((0, 1), (2, 3), (3, 4), (1, 4)))):
            right = all_stretches(net)
            many = len(net[1])
            for stretch in right:
                self.assertIsNone(stretch_error(net, stretch))
            for one in range(-1, many + 1):
                for other in range(-1, many + 1):
                    for value in ((one,), (one, other), (one, other, 0)):
                        self.assertIs(stretch_error(net, value) is None, value in right, value)

    def test_form(self):
        for value in KINDS:
            if not isinstance(value, tuple) or value == ():
                self.assertEqual(stretch_error(RIVER, value), "form", value)
        for value in ([0, 2, 4], {0: 2}, "0 2 4", None, ()):
            self.assertEqual(stretch_error(RIVER, value), "form")

    def test_road(self):
        for item in NO_INTEGERS + (-1, 5, 10 ** 399):
            self.assertEqual(stretch_error(RIVER, (item,)), ("road", 0), item)
            self.assertEqual(stretch_error(RIVER, (0, 2, item)), ("road", 2), item)
            self.assertEqual(stretch_error(RIVER, (item, item)), ("road", 0), item)

    def test_joint(self):
        for value, place in (((0, 1), 1), ((2, 0), 1), ((0, 4), 1), ((0, 2, 2), 2), ((0, 2, 4, 0), 3), ((3, 4), 1), ((0, 0), 1),
                             ((0,) * 4000, 1)):
            self.assertEqual(stretch_error(RIVER, value), ("joint", place), value)

    def test_the_first_error_is_told(self):
        self.assertEqual(stretch_error(RIVER, [9]), "form")
        self.assertEqual(stretch_error(RIVER, (0, 1, 9)), ("road", 2))
        self.assertEqual(stretch_error(RIVER, (0, 4, 1)), ("joint", 1))

    def test_the_longest_one(self):
        net = chain(23, 2)
        self.assertIsNone(stretch_error(net, tuple(range(0, 46, 2))))
        self.assertIsNone(stretch_error(net, tuple(range(1, 46, 2))))
        self.assertEqual(stretch_error(net, tuple(range(1, 46, 2)) + (45,)), ("joint", 23))


class Along(unittest.TestCase):

    def test_beside_a_search_through_all_explanations(self):
        met = {}
        for net, tally, right in some_explained():
            for stretch in all_stretches(net):
                numbers = numbers_along(right, stretch)
                self.assertEqual(least_along(net, tally, stretch), min(numbers), (net, tally, stretch))
                self.assertEqual(most_along(net, tally, stretch), max(numbers), (net, tally, stretch))
                self.assertIs(is_sure(net, tally, stretch), min(numbers) > 0)
                self.assertEqual(sorted(set(numbers)), list(range(min(numbers), max(numbers) + 1)))
                met[len(stretch), max(numbers) - min(numbers)] = True
        self.assertGreater(len(met), 8)

    def test_excess(self):
        for net, tally, _ in some_explained():
            for stretch in all_stretches(net):
                self.assertEqual(excess(net, tally, stretch), own_excess(net, tally, stretch))
                self.assertEqual(excess(net, tally, stretch), excess_from_its_end(net, tally, stretch))
        for net, tally, stretches in great_stretches():
            for stretch in stretches:
                self.assertEqual(excess(net, tally, stretch), own_excess(net, tally, stretch))

    def test_one_road(self):
        for road, count in enumerate(SEEN):
            self.assertEqual((excess(RIVER, SEEN, (road,)), least_along(RIVER, SEEN, (road,))), (count, count))
            self.assertEqual(most_along(RIVER, SEEN, (road,)), count)
            self.assertIs(is_sure(RIVER, SEEN, (road,)), True)
        for function in (excess, least_along, most_along):
            self.assertEqual(function(RIVER, (0,) * 5, (3,)), 0)
        self.assertIs(is_sure(RIVER, (0,) * 5, (3,)), False)

    def test_excess_of_0_is_not_sure(self):
        self.assertEqual([excess(RIVER, (3, 1, 1, 3, 1), stretch) for stretch in ((0, 2, 4), (0, 3), (1, 2))], [0, 2, -2])
        self.assertEqual([is_sure(RIVER, (3, 1, 1, 3, 1), stretch) for stretch in ((0, 2, 4), (0, 3), (1, 2))],
                         [False, True, False])
        self.assertEqual([least_along(RIVER, (3, 1, 1, 3, 1), stretch) for stretch in ((0, 2, 4), (0, 3), (1, 2))], [0, 2, 0])

    def test_great_counts(self):
        net, stretch = chain(23, 2), tuple(range(0, 46, 2))
        self.assertEqual(excess(net, (TOP - 1, 1) * 23, stretch), TOP - 23)
        self.assertEqual(most_along(net, (TOP - 1, 1) * 23, stretch), TOP - 1)
        self.assertEqual(excess(net, (TOP,) * 46, stretch), -21 * TOP)
        self.assertEqual(least_along(net, (TOP,) * 46, stretch), 0)
        self.assertEqual(most_along(net, (TOP,) * 46, stretch), TOP)
        self.assertEqual(least_along(net, (TOP, 0) * 23, stretch), TOP)
        self.assertEqual(least_along(net, (0, TOP) * 23, stretch), 0)

    def test_of_two_tallies_put_together(self):
        chance = random.Random(62)
        for net, tally, stretches in great_stretches():
            other = random_tally(chance, net, 20, 10 ** 6)
            if max(tally) < TOP // 2:
                both = put_together(tally, other)
                for stretch in stretches:
                    self.assertEqual(excess(net, both, stretch), excess(net, tally, stretch) + excess(net, other, stretch))
                    self.assertLessEqual(least_along(net, both, stretch),
                                         least_along(net, tally, stretch) + least_along(net, other, stretch))
                    self.assertGreaterEqual(most_along(net, both, stretch),
                                            most_along(net, tally, stretch) + most_along(net, other, stretch))


class SureStretches(unittest.TestCase):

    def test_beside_a_search_through_all_explanations(self):
        met = 0
        for net, tally, right in some_explained():
            sure = [stretch for stretch in all_stretches(net) if min(numbers_along(right, stretch)) > 0]
            wanted = [one for one in sure if not any([one != other and is_along(one, other) for other in sure])]
            self.assertEqual(sure_stretches(net, tally), tuple(sorted(wanted)), (net, tally))
            met += len(wanted) > 1 and max([len(stretch) for stretch in wanted]) > 1
        self.assertGreater(met, 40)

    def test_beside_all_stretches(self):
        chance = random.Random(63)
        for _ in range(150):
            net = random_net(chance, chance.randint(3, 7), 12)
            if trip_count(net):
                for most in (2, TOP // 20):
                    tally = random_tally(chance, net, chance.randint(1, 6), most)
                    self.assertEqual(sure_stretches(net, tally), own_sure(net, tally), (net, tally))

    def test_nothing_counted(self):
        for net in (RIVER, chain(23, 2), (2, ((0, 1),) * 60), (3, ((1, 2),))):
            self.assertEqual(sure_stretches(net, (0,) * len(net[1])), ())

    def test_great_nets(self):
        for net, tally in great_tallies():
            told = sure_stretches(net, tally)
            self.assertEqual(list(told), sorted(set(told)))
            for stretch in told:
                self.assertIs(is_sure(net, tally, stretch), True)
                self.assertEqual([one for one in told if one != stretch and is_along(stretch, one)], [])
            lying = {stretch[begin:begin + 1] for stretch in told for begin in range(len(stretch))}
            self.assertEqual(lying, {(road,) for road, count in enumerate(tally) if count})

    def test_chains(self):
        net = chain(23, 2)
        self.assertEqual(sure_stretches(net, (TOP, 0) * 23), (tuple(range(0, 46, 2)),))
        self.assertEqual(sure_stretches(net, (TOP,) * 46), tuple([(road,) for road in range(46)]))
        main = tuple(range(0, 46, 2))
        self.assertEqual(sure_stretches(net, (TOP - 1, 1) * 23),
                         tuple(sorted([main] + [(2 * at + 1,) for at in range(23)])))
        self.assertEqual(sure_stretches(net, (20, 1) * 23),
                         tuple(sorted([main[at:at + 20] for at in range(4)] + [(2 * at + 1,) for at in range(23)])))
        self.assertEqual(sure_stretches(net, (2, 0) + (1, 1) * 22),
                         tuple(sorted([(0, 2), (0, 3)] + [(road,) for road in range(4, 46)])))

    def test_many_that_share_a_road(self):
        net = (5, ((0, 1), (1, 2), (1, 2), (2, 3), (2, 3), (3, 4)))
        self.assertEqual(sure_stretches(net, (3, 2, 1, 2, 1, 3)), ((0, 1, 3, 5), (0, 2), (4, 5)))
        split = (7, tuple([(0, 1)] + [(1, head) for head in range(2, 6)] + [(foot, 6) for foot in range(2, 6)]))
        self.assertEqual(sure_stretches(split, (10, 1, 2, 3, 4, 1, 2, 3, 4)),
                         tuple([(0, road, road + 4) for road in range(1, 5)]))


class Through(unittest.TestCase):

    def test_beside_a_search_through_all_tallies_within(self):
        met = {"unfit": 0, "endless": 0, "told": 0}
        for net, holes in small_holes():
            found = search_within(net, holes)
            highs = sum([high for _, high in holes if high is not None])
            for stretch in all_stretches(net):
                if not found:
                    met["unfit"] += 1
                    self.assertEqual(answer(least_through, net, holes, stretch), UNFIT)
                    self.assertEqual(answer(most_through, net, holes, stretch), UNFIT)
                    continue
                least = min([least_along(net, tally, stretch) for tally in found])
                most = max([most_along(net, tally, stretch) for tally in found])
                self.assertEqual(least_through(net, holes, stretch), least, (net, holes, stretch))
                wanted = None if most > highs else most
                self.assertEqual(most_through(net, holes, stretch), wanted, (net, holes, stretch))
                met["endless" if wanted is None else "told"] += 1
        self.assertGreater(min(met.values()), 100)

    def test_holes_of_one_number(self):
        for net, tally, stretches in great_stretches():
            small = tuple([count // 60 for count in tally]) if max(tally) == TOP else tally
            holes = tuple([(count, count) for count in small])
            for stretch in stretches:
                self.assertEqual(least_through(net, holes, stretch), least_along(net, small, stretch))
                self.assertEqual(most_through(net, holes, stretch), most_along(net, small, stretch))

    def test_wider_holes(self):
        chance = random.Random(64)
        for net, tally, stretches in great_stretches():
            small = tuple([count // 60 for count in tally]) if max(tally) == TOP else tally
            holes = tuple([(max(0, count - chance.choice((0, 9, HOLE // 100))), chance.choice((count, count + 5, None)))
                           for count in small])
            for stretch in stretches:
                least, most = least_through(net, holes, stretch), most_through(net, holes, stretch)
                self.assertLessEqual(least, least_along(net, small, stretch))
                self.assertTrue(most is None or most >= most_along(net, small, stretch))

    def test_no_tally_within(self):
        for holes in (((1, 1), (0, 0), (0, 0), (0, 0), (0, None)), ((0, 2), (0, 2), (3, None), (2, None), (0, None)),
                      ((0, None), (0, None), (1, None), (0, None), (0, 0))):
            for stretch in all_stretches(RIVER):
                self.assertEqual(answer(least_through, RIVER, holes, stretch), UNFIT)
                self.assertEqual(answer(most_through, RIVER, holes, stretch), UNFIT)

    def test_no_bounds_at_all(self):
        for net in (RIVER, chain(23, 2), wide(30, 30)):
            holes = ((0, None),) * len(net[1])
            for number in (0, trip_count(net) - 1):
                self.assertEqual(least_through(net, holes, trip_at(net, number)), 0)
                self.assertIsNone(most_through(net, holes, trip_at(net, number)))
        # No trip uses the road, so nobody goes along it, though there is no bound.
        self.assertEqual(most_through((3, ((1, 2), (0, 2))), ((0, None), (0, None)), (0,)), 0)
        self.assertEqual(most_through((4, ((0, 1), (1, 2), (0, 3))), ((0, None),) * 3, (0, 1)), 0)

    def test_lows_on_the_stretch_above_what_goes_along(self):
        line = (4, ((0, 1), (1, 2), (2, 3), (0, 2), (1, 3)))
        self.assertEqual(most_through(line, ((5, 9), (0, 3), (0, None), (0, None), (0, None)), (0, 1, 2)), 3)
        self.assertEqual(least_through(line, ((5, 9), (0, 3), (0, None), (0, None), (0, 4)), (0, 1)), 1)
        self.assertEqual(most_through(line, ((0, None), (0, None), (7, 9), (6, 6), (0, None)), (0, 1, 2)), 3)
        self.assertEqual(most_through(line, ((0, None), (0, None), (0, None), (6, 6), (0, None)), (0, 1, 2)), None)

    def test_a_bar_that_the_stretch_enters_often(self):
        for often in range(1, 12):
            last = 2 * often
            along = [(place, place + 1) for place in range(last)]
            inside = [(place, place + 2) for place in range(1, last - 2, 2)]
            others = [(0, 1)] + [(place, last) for place in range(2, last, 2)]
            net = (last + 1, tuple(along + inside + others))
            for top, low in ((10, 0), (10, 1), (10, 3), (10, 7), (10, 10), (HOLE, 1), (HOLE, 7 ** 30), (HOLE, HOLE)):
                # Into the places 1, 3, .. come as many as go along, often times, and low; often times top can leave.
                holes = ((0, None), (0, top)) * often + ((0, None),) * len(inside)
                holes += ((low, None),) + ((0, None),) * (often - 1)
                self.assertEqual(most_through(net, holes, tuple(range(last))), top - -(-low // often), (often, top, low))
                # More have to go along the first road than all of the stretch, so that its low takes room.
                if low + 2 <= top * (often - 1):
                    further = ((top + 2, None),) + holes[1:]
                    self.assertEqual(most_through(net, further, tuple(range(last))), top - -(-(low + 2) // (often - 1)))

    def test_the_number_is_the_greatest_that_fits(self):
        chance = random.Random(65)
        met = 0
        for _ in range(250):
            net = random_net(chance, chance.randint(4, 24), 60)
            if not trip_count(net):
                continue
            tally = random_tally(chance, net, chance.randint(1, 40), HOLE // 100)
            holes = tuple([(max(0, count - chance.choice((0, 1, HOLE // 50))), chance.choice((count, count + HOLE // 70, None)))
                           for count in tally])
            trip = trip_at(net, chance.randrange(trip_count(net)))
            begin = chance.randrange(len(trip))
            stretch = trip[begin:]
            much = most_through(net, holes, stretch)
            if much is not None:
                for least, fits in ((much, True), (much + 1, False)):
                    further = tuple([(max(low, least), high) if road in stretch else (low, high)
                                     for road, (low, high) in enumerate(holes)])
                    beyond = any([high is not None and high < low for low, high in further])
                    self.assertIs(not beyond and answer(most_through, net, further, stretch) != UNFIT, fits)
                met += 1
        self.assertGreater(met, 100)

    def test_great_holes(self):
        net, stretch = chain(23, 2), tuple(range(0, 46, 2))
        holes = ((HOLE - 1, HOLE), (0, 1)) * 23
        self.assertEqual(least_through(net, holes, stretch), HOLE - 23)
        self.assertEqual(most_through(net, holes, stretch), HOLE)
        self.assertEqual(least_through(net, ((HOLE, None), (0, 1)) * 23, stretch), HOLE - 22)
        self.assertIsNone(most_through(net, ((HOLE, None), (0, 1)) * 23, stretch))
        self.assertEqual(most_through(net, ((HOLE, None), (0, 1)) * 22 + ((0, HOLE), (0, HOLE)), stretch), HOLE)


class Calls(unittest.TestCase):

    def test_by_place_by_name_and_again(self):
        for value in KINDS + ((0, 2, 4), (0, 5), [0]):
            check_calls(self, stretch_error, ("net", "value"), (RIVER, value))
        first = {}
        for net, tally, stretches in great_stretches()[::4] * 2:
            for stretch in stretches[::3]:
                for function in (excess, least_along, most_along, is_sure):
                    told = check_calls(self, function, ("net", "tally", "stretch"), (net, tally, stretch))
                    self.assertEqual(first.setdefault((function, net, tally, stretch), told), told)
                holes = tuple([(count // 100, None) for count in tally])
                for function in (least_through, most_through):
                    told = check_calls(self, function, ("net", "holes", "stretch"), (net, holes, stretch))
                    self.assertEqual(first.setdefault((function, net, tally, stretch), told), told)
            told = check_calls(self, sure_stretches, ("net", "tally"), (net, tally))
            self.assertEqual(first.setdefault((net, tally), told), told)


if __name__ == "__main__":
    unittest.main()
