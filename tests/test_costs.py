"""Least costs and prices: [E4], and of [E5] what it says of them."""

import random
import unittest

from suretrips.costs import least_cost, least_cost_error
from suretrips.fillings import is_within, no_filling
from suretrips.nets import trip_count
from suretrips.tallies import tally_error
from tests.common import (KINDS, NO_INTEGERS, all_trips, answer, chain, check_calls, random_net, random_tally, raised,
                          search_within, small_holes, wide)

DOORS = (3, ((0, 1), (0, 1), (1, 2), (1, 2)))
HOLES, COSTS = ((0, 5), (2, 2), (0, None), (1, 1)), (1, 0, 0, -1)
LINE = (3, ((0, 1), (1, 2)))
TOP = 10 ** 28
UNFIT = raised("Unfit")


def times_costs(costs, counts):
    return sum([cost * count for cost, count in zip(costs, counts)])


def endless_trips(net, holes, costs):
    """The trips of roads without bound whose costs are below 0."""
    trips = [trip for trip in all_trips(net) if all([holes[road][1] is None for road in trip])]
    return [trip for trip in trips if sum([costs[road] for road in trip]) < 0]


def own_error(net, holes, costs, value):
    """What least_cost_error has to tell of a triple of an integer or None and two tuples."""
    many, roads = net
    worth, told, prices = value
    if worth is None:
        if told not in endless_trips(net, holes, costs) or any([type(road) is not int for road in told]):
            return "trip"
        if prices != ():
            return "prices"
        return None if no_filling(net, holes) is None else "holes"
    if tally_error(net, told) is not None or not is_within(holes, told):
        return "tally"
    if len(prices) != many or any([type(price) is not int for price in prices]) or prices[0] != 0 or prices[-1] != 0:
        return "prices"
    for road, (foot, head) in enumerate(roads):
        rest = costs[road] + prices[foot] - prices[head]
        if (rest > 0 and told[road] != holes[road][0]) or (rest < 0 and told[road] != holes[road][1]):
            return ("road", road)
    return None if worth == times_costs(costs, told) else "worth"


def random_costs(chance, roads):
    choice = chance.choice(((-9, -3, -1, 0, 0, 1, 2, 9), (0, 1, 2, 3), (-9, 9), (0,), tuple(range(-9, 10))))
    return tuple([chance.choice(choice) for _ in range(roads)])


def great_cases():
    """Great nets with great holes around a tally, some without bounds, and costs."""
    chance = random.Random(52)
    nets = [chain(23, 2), chain(12, 5), wide(30, 30), wide(1, 59), (2, ((0, 1),) * 60)]
    nets.extend([random_net(chance, chance.randint(3, 24), 60) for _ in range(60)])
    cases = []
    for net in nets:
        if trip_count(net):
            tally = random_tally(chance, net, chance.randint(1, 60), TOP // 200)
            holes = []
            for count in tally:
                low = max(0, count - chance.choice((0, 0, 1, 7, TOP // 1000, count)))
                holes.append((low, chance.choice((None, count, count + 1, count + TOP // 100))))
            cases.extend([(net, tuple(holes), random_costs(chance, len(net[1]))) for _ in range(4)])
    return cases


class LeastCost(unittest.TestCase):

    def check(self, *case):
        told = least_cost(*case)
        self.assertIsNone(least_cost_error(*case, told), (case, told))
        self.assertIsNone(own_error(*case, told), (case, told))
        return told[0]

    def test_beside_a_search(self):
        chance = random.Random(51)
        met = {}
        for net, holes in small_holes():
            found = search_within(net, holes)
            for _ in range(3):
                costs = random_costs(chance, len(net[1]))
                if not found:
                    wanted = "unfit"
                    self.assertEqual(answer(least_cost, net, holes, costs), UNFIT)
                elif endless_trips(net, holes, costs):
                    wanted = "endless"
                    self.assertIsNone(self.check(net, holes, costs))
                    self.assertIn(least_cost(net, holes, costs)[1], endless_trips(net, holes, costs))
                else:
                    wanted = "told"
                    least = min([times_costs(costs, tally) for tally in found])
                    self.assertEqual(self.check(net, holes, costs), least, (net, holes, costs))
                met[wanted] = met.get(wanted, 0) + 1
        self.assertGreater(min(met.values()), 100)

    def test_costs_the_other_way_round_tell_the_greatest(self):
        chance = random.Random(53)
        for net, holes in small_holes()[::4]:
            costs = random_costs(chance, len(net[1]))
            turned = tuple([-cost for cost in costs])
            found = search_within(net, holes)
            if found and not endless_trips(net, holes, turned):
                self.assertEqual(-self.check(net, holes, turned), max([times_costs(costs, tally) for tally in found]))

    def test_no_tally_within(self):
        for net, holes in ((DOORS, ((0, 1), (0, 1), (2, 4), (1, 1))), (LINE, ((0, 3), (4, None))), (LINE, ((4, None), (0, 3))),
                           ((3, ((1, 2),)), ((1, None),))):
            roads = len(net[1])
            for cost in (-9, 0, 9):
                self.assertEqual(answer(least_cost, net, holes, (cost,) * roads), UNFIT)
        # Unfit is told first, though a trip without bounds has a cost below 0.
        net = (4, ((0, 3), (0, 1), (1, 3)))
        self.assertEqual(answer(least_cost, net, ((0, None), (3, 3), (0, 2)), (-1, 0, 0)), UNFIT)

    def test_holes_of_one_number(self):
        for cost in (-9, 0, 9):
            self.assertEqual(self.check(LINE, ((7, 7), (7, 7)), (cost, cost)), 14 * cost)
            self.assertEqual(self.check(LINE, ((7, 7), (0, None)), (cost, -cost)), 0)
            self.assertEqual(self.check((2, ((0, 1),)), ((TOP, TOP),), (cost,)), cost * TOP)
            self.assertEqual(self.check((2, ((0, 1),)), ((0, 0),), (cost,)), 0)

    def test_one_road(self):
        road = (2, ((0, 1),))
        self.assertEqual(least_cost(road, ((2, None),), (9,)), (18, (2,), (0, 0)))
        self.assertEqual(least_cost(road, ((2, 5),), (-9,)), (-45, (5,), (0, 0)))
        self.assertEqual(least_cost(road, ((2, None),), (-1,)), (None, (0,), ()))
        self.assertEqual(self.check(road, ((2, None),), (0,)), 0)

    def test_nets_without_trips(self):
        self.assertEqual(self.check((3, ((1, 2),)), ((0, None),), (-9,)), 0)
        self.assertEqual(self.check((4, ((0, 1), (2, 3))), ((0, None), (0, None)), (-9, -9)), 0)

    def test_trips_without_bounds_that_cost_nothing(self):
        self.assertEqual(self.check(LINE, ((0, None), (0, None)), (9, -9)), 0)
        self.assertEqual(self.check(LINE, ((3, None), (0, None)), (-9, 9)), 0)
        self.assertIsNone(self.check(LINE, ((0, None), (0, None)), (8, -9)))
        self.assertEqual(self.check(LINE, ((0, None), (0, 5)), (8, -9)), -5)
        self.assertEqual(self.check(DOORS, ((0, None), (0, None), (0, None), (0, 4)), (5, 3, -3, -9)), -24)

    def test_great_nets(self):
        met = {}
        for case in great_cases():
            told = answer(least_cost, *case)
            if told != UNFIT:
                word = self.check(*case) is None
                met[word] = met.get(word, 0) + 1
        self.assertGreater(min(met.values()), 20)
        self.assertEqual(len(met), 2)

    def test_prices_far_from_0(self):
        net = chain(23, 2)
        for cost in (9, -9):
            costs = (cost, 0) * 11 + (0, 0) + (-cost, 0) * 11
            self.check(net, ((TOP, TOP), (0, 0)) + ((0, TOP), (0, 1)) * 21 + ((TOP, TOP), (0, 0)), costs)
            self.assertEqual(self.check(net, ((0, TOP), (0, 0)) * 23, (cost, 0) * 23), min(0, 23 * cost * TOP))
            self.assertEqual(self.check(net, ((5, TOP), (0, None)) * 23, (9, 9) * 23), 23 * 45)

    def test_great_holes_as_small_ones(self):
        for most in (10, 10 ** 9, TOP):
            self.assertEqual(self.check(wide(30, 30), ((0, most),) * 60, (-9,) * 30 + (8,) * 30), -30 * most)
            self.assertEqual(self.check(wide(30, 30), ((0, most),) * 60, tuple(range(-9, 6)) * 4), -4 * 45 * most)
            self.assertEqual(self.check(chain(23, 2), ((0, most), (0, None)) * 23, (-9, 9) * 23), -207 * most)


class LeastCostError(unittest.TestCase):

    def check(self, value, error, holes=HOLES, costs=COSTS, net=DOORS):
        self.assertEqual(least_cost_error(net, holes, costs, value), error, value)

    def test_form(self):
        for value in KINDS:
            self.check(value, "form")
            if not isinstance(value, tuple):
                self.check((-1, value, (0, 0, 0)), "form")
                self.check((-1, (0, 2, 1, 1), value), "form")
                self.check((None, value, ()), "form")
            if value is not None and type(value) is not int:
                self.check((value, (0, 2, 1, 1), (0, 0, 0)), "form")
        self.check((-1, (0, 2, 1, 1)), "form")
        self.check((-1, (0, 2, 1, 1), (0, 0, 0), ()), "form")
        self.check([-1, (0, 2, 1, 1), (0, 0, 0)], "form")

    def test_trip(self):
        holes, costs = ((0, None), (2, 2), (0, None), (0, None)), (-1, -9, 0, 1)
        self.check((None, (0, 2), ()), None, holes, costs)
        self.check((None, (0, 3), ()), "trip", holes, costs)
        self.check((None, (1, 2), ()), "trip", holes, costs)
        for trip in ((), (0,), (2,), (2, 0), (0, 4), (0, -2), (False, 2), (0, None), (0, 2, 2)):
            self.check((None, trip, ()), "trip", holes, costs)
        for value in KINDS:
            if isinstance(value, tuple):
                self.check((None, value, ()), "trip", holes, costs)
        self.check((None, (0, 2), ()), "trip", holes, (-1, 0, 1, 0))
        self.check((None, (0, 2), ()), "trip", HOLES, (0, 0, 0, 0))

    def test_prices_and_holes_of_a_trip(self):
        holes = ((0, None), (2, 2), (0, None), (0, 0))
        for value in KINDS:
            if isinstance(value, tuple):
                self.check((None, (0, 2), value), None if value == () else "prices", holes, (-1, 0, 0, 0))
        net = (4, ((0, 3), (0, 1), (1, 3)))
        barred = ((0, None), (3, 3), (0, 2))
        self.check((None, (0,), ()), "holes", barred, (-1, 0, 0), net)
        self.check((None, (0,), (0,)), "prices", barred, (-1, 0, 0), net)
        self.check((None, (1, 2), (0,)), "trip", barred, (-1, 0, 0), net)

    def test_tally(self):
        for tally in ((0, 2, 1), (0, 2, 1, 1, 0), (0, 2, 2, 1), (0, 2, 1, 0), (6, 2, 7, 1), (0, 1, 0, 1), (-1, 2, 0, 1),
                      (False, 2, 1, 1), (0, 2, 1, None), ()):
            self.check((-1, tally, (0, 0, 0)), "tally")
        for item in NO_INTEGERS + (-1, 10 ** 30 + 1):
            self.check((-1, (0, 2, item, 1), (0, 0, 0)), "tally")
        # Counts above all that a tally may have are none, though no bound is told.
        self.check((0, (10 ** 30, 10 ** 30), (0, 0, 0)), None, ((0, None),) * 2, (0, 0), LINE)
        self.check((0, (10 ** 30 + 1, 10 ** 30 + 1), (0, 0, 0)), "tally", ((0, None),) * 2, (0, 0), LINE)

    def test_prices(self):
        for prices in ((), (0, 0), (0, 0, 0, 0), (1, 0, 0), (0, 0, 1), (0, 0, -1), (1, 1, 1), (0, None, 0), (0, True, 0),
                       (False, 0, 0), (0, 0, False), (0, "0", 0)):
            self.check((-1, (0, 2, 1, 1), prices), "prices")
        for item in NO_INTEGERS:
            self.check((-1, (0, 2, 1, 1), (0, item, 0)), "prices")

    def test_road(self):
        self.check((0, (1, 2, 2, 1), (0, 0, 0)), ("road", 0))
        self.check((-1, (0, 2, 1, 1), (0, 2, 0)), ("road", 0))
        self.check((-1, (0, 2, 1, 1), (0, 1, 0)), ("road", 2))
        self.check((-1, (0, 2, 1, 1), (0, -1, 0)), ("road", 2))
        self.check((-5, (4, 2, 5, 1), (0, 0, 0)), ("road", 0), costs=(-1, 0, 0, -1))
        self.check((-6, (5, 2, 6, 1), (0, 0, 0)), None, costs=(-1, 0, 0, -1))
        # Below 0 without a high is never right, whatever the count is.
        for count in (0, 2, 10 ** 28):
            self.check((-count, (count,), (0, 0)), ("road", 0), ((0, None),), (-1,), (2, ((0, 1),)))
        self.check((10 ** 399, (0, 2, 1, 1), (0, -10 ** 399, 0)), ("road", 2))

    def test_worth(self):
        self.check((-1, (0, 2, 1, 1), (0, 0, 0)), None)
        for worth in (0, 1, -2, 10 ** 399):
            self.check((worth, (0, 2, 1, 1), (0, 0, 0)), "worth")

    def test_the_first_error_is_told(self):
        self.check((-2, (1, 2, 1, 1), (0, 1, 1)), "tally")
        self.check((-2, (1, 2, 2, 1), (0, 1, 1)), "prices")
        self.check((-2, (1, 2, 2, 1), (0, 0, 0)), ("road", 0))
        self.check((-2, (0, 2, 1, 1), (0, 0, 0)), "worth")

    def test_beside_a_judge_of_the_test(self):
        chance = random.Random(54)
        met = {}
        for net, holes in small_holes()[::2]:
            costs = random_costs(chance, len(net[1]))
            if no_filling(net, holes) is not None:
                continue
            worth, told, prices = least_cost(net, holes, costs)
            for _ in range(6):
                road, place = chance.randrange(len(net[1])), chance.randrange(net[0])
                found = chance.choice(search_within(net, holes))
                value = chance.choice((
                    (worth, found, prices), ((worth or 0) + chance.choice((-1, 1)), told, prices),
                    (times_costs(costs, found), found, prices), (worth, told, prices[:-1]), (None, told, prices),
                    (worth, told[:road] + (0,) + told[road + 1:], prices), (None, chance.choice(all_trips(net) + [()]), ()),
                    (worth, told, prices[:place] + (chance.choice((-1, 0, 1, 3)),) + prices[place + 1:])))
                wanted = own_error(net, holes, costs, value)
                self.assertEqual(least_cost_error(net, holes, costs, value), wanted, (net, holes, costs, value))
                word = wanted[0] if isinstance(wanted, tuple) else wanted
                met[word] = met.get(word, 0) + 1
        self.assertGreaterEqual(set(met), {None, "trip", "tally", "prices", "road", "worth"})
        self.assertGreater(min(met.values()), 20)


class Calls(unittest.TestCase):

    def test_by_place_by_name_and_again(self):
        names = ("net", "holes", "costs")
        first = {}
        cases = [(DOORS, HOLES, COSTS), (DOORS, ((0, None), (2, 2), (0, None), (1, 1)), (-1, 0, 0, 0)),
                 (DOORS, ((0, 1), (0, 1), (2, 4), (1, 1)), COSTS)] + great_cases()[:6]
        for case in cases * 2:
            told = check_calls(self, least_cost, names, case)
            self.assertEqual(first.setdefault(case, told), told)
            for value in ((-1, (0, 2, 1, 1), (0, 0, 0)), [1], (None, [0], ()), (3, ([], 1), ())):
                told = check_calls(self, least_cost_error, names + ("value",), case + (value,))
                self.assertEqual(first.setdefault((case, repr(value)), told), told)


if __name__ == "__main__":
    unittest.main()
