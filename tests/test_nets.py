"""Nets, roads and trips: [A4] to [A7], and [A9]."""

import random
import unittest
from itertools import product

from suretrips.nets import leads, net_error, roads_from, roads_to, trip_at, trip_count, trip_error
from tests.common import (KINDS, NO_INTEGERS, all_trips, answer, chain, check_calls, raised, random_net, reach,
                          some_nets)

NET = (5, ((0, 1), (0, 2), (1, 2), (1, 4), (2, 3), (2, 4), (3, 4)))
DOUBLE = (4, ((0, 1), (0, 1), (1, 3), (1, 3), (2, 3)))
TRIPLESS = (3, ((1, 2),))
GREATEST = (24, tuple([(place, place + 1) for place in range(23)] + [(0, 23)] * 37))
UNFIT = raised("Unfit")


class NetError(unittest.TestCase):

    def test_nets(self):
        for net in (NET, DOUBLE, TRIPLESS, (2, ((0, 1),)), (2, ((0, 1),) * 60), (24, ((0, 23),)), (24, ((22, 23),)),
                    (24, ((0, 1),)), GREATEST, chain(23, 2), (4, ((1, 2),))):
            self.assertIsNone(net_error(net))

    def test_form(self):
        for value in KINDS:
            self.assertEqual(net_error(value), "form", value)
            if not isinstance(value, tuple):
                self.assertEqual(net_error((3, value)), "form", value)
        for value in ((5,), (5, ((0, 1),), 1), [5, ((0, 1),)], (5, ()), (5, ((0, 1),) * 61), (5, [(0, 1)]),
                      {5: ((0, 1),)}, (((0, 1),), 5), (5, {(0, 1): 0}), (5, "01"), (5, None)):
            self.assertEqual(net_error(value), "form", value)

    def test_many(self):
        for many in NO_INTEGERS + (1, 0, -1, -2, 25, 26, 10 ** 399, -10 ** 399):
            self.assertEqual(net_error((many, ((0, 1),))), "many", many)

    def test_road(self):
        for road in KINDS:
            if repr(road) != "(0, 1)":
                self.assertEqual(net_error((3, ((0, 1), road, (1, 2)))), ("road", 1), road)
        for road in ((1, 0), (1, 1), (0, 3), (3, 4), (-1, 1), (0, -1), (-2, -1), (0, 1, 2), (0,), [0, 1], (0, 10 ** 399)):
            self.assertEqual(net_error((3, (road,))), ("road", 0), road)
        for item in NO_INTEGERS:
            self.assertEqual(net_error((3, ((0, 1), (1, 2), (item, 2)))), ("road", 2), item)
            self.assertEqual(net_error((3, ((0, 1), (1, 2), (0, item)))), ("road", 2), item)
        self.assertEqual(net_error((24, ((0, 23), (0, 24)))), ("road", 1))
        self.assertEqual(net_error((2, ((0, 1),) * 59 + ((1, 1),))), ("road", 59))
        self.assertEqual(net_error((3, ((0, 1), (2, 2), (1, 0)))), ("road", 1))

    def test_the_first_error_is_told(self):
        self.assertEqual(net_error((1, [(0, 1)])), "form")
        self.assertEqual(net_error((True, ())), "form")
        self.assertEqual(net_error((1, ((1, 0),))), "many")
        self.assertEqual(net_error((None, (None,))), "many")
        self.assertEqual(net_error((25, ((0, 1),) * 61)), "form")


class Roads(unittest.TestCase):

    def test_roads_of_places(self):
        self.assertEqual([roads_from(DOUBLE, place) for place in range(4)], [(0, 1), (2, 3), (4,), ()])
        self.assertEqual([roads_to(DOUBLE, place) for place in range(4)], [(), (0, 1), (), (2, 3, 4)])
        self.assertEqual(roads_from((2, ((0, 1),) * 60), 0), tuple(range(60)))
        self.assertEqual(roads_to(GREATEST, 23), tuple(range(22, 60)))
        self.assertEqual((roads_from(TRIPLESS, 0), roads_to(TRIPLESS, 1)), ((), ()))

    def test_leads_is_as_the_roads_tell(self):
        for net in some_nets():
            _, roads = net
            found = reach(net)
            for one, other in product(range(len(roads)), repeat=2):
                self.assertIs(leads(net, one, other), (roads[one][1], roads[other][0]) in found, (net, one, other))

    def test_leads_goes_one_way_and_goes_over(self):
        for net in some_nets():
            _, roads = net
            every = range(len(roads))
            led = {(one, other) for one, other in product(every, repeat=2) if leads(net, one, other)}
            for one, other in led:
                self.assertNotIn((other, one), led)
                self.assertLessEqual(roads[one][1], roads[other][0])
                self.assertTrue(all([(one, third) in led for third in every if (other, third) in led]))

    def test_leads_in_great_nets(self):
        self.assertTrue(leads(GREATEST, 0, 22))
        self.assertFalse(leads(GREATEST, 22, 0))
        self.assertTrue(leads(chain(23, 2), 1, 44))
        self.assertFalse(leads(chain(23, 2), 0, 1))
        # The road told last leads on to that told first.
        self.assertTrue(leads((4, ((2, 3), (1, 2), (0, 1))), 2, 0))


class Trips(unittest.TestCase):

    def test_all_trips_ascending(self):
        for net in some_nets():
            trips = all_trips(net)
            self.assertEqual(trip_count(net), len(trips), net)
            self.assertEqual([trip_at(net, number) for number in range(len(trips))], trips)
            for number in (-1, len(trips), len(trips) + 1):
                self.assertEqual(answer(trip_at, net, number), UNFIT)

    def test_all_trips_of_random_nets(self):
        chance = random.Random(7)
        for _ in range(60):
            net = random_net(chance, chance.randint(4, 8), 14)
            trips = all_trips(net)
            self.assertEqual(trip_count(net), len(trips))
            self.assertEqual([trip_at(net, number) for number in range(len(trips))], trips)

    def test_the_roads_may_stand_in_any_order(self):
        self.assertEqual(trip_count((4, ((2, 3), (1, 2), (0, 1)))), 1)
        self.assertEqual(trip_at((4, ((2, 3), (1, 2), (0, 1))), 0), (2, 1, 0))

    def test_more_trips_than_can_be_gone_through(self):
        net = chain(23, 2)
        self.assertEqual(trip_count(net), 2 ** 23)
        self.assertEqual(trip_at(net, 0), tuple(range(0, 46, 2)))
        self.assertEqual(trip_at(net, 2 ** 23 - 1), tuple(range(1, 46, 2)))
        self.assertEqual(trip_at(net, 2 ** 22), (1,) + tuple(range(2, 46, 2)))
        self.assertEqual(trip_at(net, 5), tuple(range(0, 40, 2)) + (41, 42, 45))
        self.assertEqual(answer(trip_at, net, 2 ** 23), UNFIT)
        # 14 stages of three roads, and 9 of two.
        wide = (24, tuple([(place, place + 1) for place in range(23) for _ in range(3 if place < 14 else 2)]))
        self.assertEqual((len(wide[1]), net_error(wide), trip_count(wide)), (60, None, 3 ** 14 * 2 ** 9))
        ahead = trip_at(wide, 10 ** 9)
        self.assertLess(ahead, trip_at(wide, 10 ** 9 + 1))
        self.assertIsNone(trip_error(wide, ahead))
        self.assertEqual(answer(trip_at, wide, 3 ** 14 * 2 ** 9), UNFIT)

    def test_the_ends_of_what_is_allowed(self):
        self.assertEqual(trip_count((2, ((0, 1),) * 60)), 60)
        self.assertEqual(trip_at((2, ((0, 1),) * 60), 59), (59,))
        self.assertEqual(trip_count((2, ((0, 1),))), 1)
        self.assertEqual(trip_count(GREATEST), 38)
        self.assertEqual(trip_at(GREATEST, 0), tuple(range(23)))
        self.assertEqual(trip_at(GREATEST, 37), (59,))
        for net in (TRIPLESS, (24, ((0, 1),)), (4, ((1, 2),)), (4, ((0, 1), (2, 3)))):
            self.assertEqual(trip_count(net), 0)
            self.assertEqual(answer(trip_at, net, 0), UNFIT)

    def test_trip_at_takes_integers_alone(self):
        for number in NO_INTEGERS + (-1, -5, 5, 6, 10 ** 399, -10 ** 399):
            self.assertEqual(answer(trip_at, NET, number), UNFIT, number)

    def test_a_trip_has_fewer_roads_than_there_are_places(self):
        for net in some_nets():
            self.assertTrue(all([len(trip) <= net[0] - 1 for trip in all_trips(net)]))
        self.assertEqual(len(trip_at(chain(23, 2), 77)), 23)

    def test_which_roads_stand_in_a_trip(self):
        for net in some_nets():
            many, roads = net
            found, trips = reach(net), [trip_at(net, number) for number in range(trip_count(net))]
            used = [road for road, (foot, head) in enumerate(roads)
                    if (0, foot) in found and (head, many - 1) in found]
            self.assertEqual(sorted({road for trip in trips for road in trip}), used)
            for one, other in product(used, repeat=2):
                together = any([one in trip and other in trip for trip in trips])
                self.assertIs(together, one == other or leads(net, one, other) or leads(net, other, one))


class TripError(unittest.TestCase):

    def test_none_of_just_the_trips(self):
        for net in some_nets():
            every = range(-1, len(net[1]) + 1)
            values = [value for length in range(4) for value in product(every, repeat=length)]
            self.assertEqual([value for value in values if trip_error(net, value) is None],
                             sorted([trip for trip in all_trips(net) if len(trip) < 4], key=lambda trip: (len(trip), trip)))

    def test_form(self):
        for value in KINDS:
            if not isinstance(value, tuple) or not 1 <= len(value) <= 60:
                self.assertEqual(trip_error(NET, value), "form", value)
        for value in ([0, 3], (), (0,) * 61, "03", {0: 3}, 0, None):
            self.assertEqual(trip_error(NET, value), "form")

    def test_road(self):
        for item in NO_INTEGERS + (-1, 7, 10 ** 399, (0,), [3]):
            self.assertEqual(trip_error(NET, (item,)), ("road", 0), item)
            self.assertEqual(trip_error(NET, (0, item)), ("road", 1), item)
            self.assertEqual(trip_error(NET, (6, 0, item, item)), ("road", 2), item)

    def test_joint_and_out(self):
        self.assertEqual(trip_error(NET, (0,) * 60), ("joint", 1))
        self.assertEqual(trip_error(NET, (2, 4, 6)), ("joint", 0))
        self.assertEqual(trip_error(NET, (0, 2, 6)), ("joint", 2))
        self.assertEqual(trip_error(NET, (0, 3, 6)), ("joint", 2))
        self.assertEqual(trip_error(NET, (1,)), "out")
        self.assertEqual(trip_error(NET, (1, 4)), "out")
        self.assertEqual(trip_error(TRIPLESS, (0,)), ("joint", 0))

    def test_the_first_error_is_told(self):
        self.assertEqual(trip_error(NET, [7]), "form")
        self.assertEqual(trip_error(NET, (7,) * 61), "form")
        self.assertEqual(trip_error(NET, (3, 0, 7)), ("road", 2))
        self.assertEqual(trip_error(NET, (3, 0, 0)), ("joint", 0))
        self.assertEqual(trip_error(NET, (0, 4, 3)), ("joint", 1))
        self.assertEqual(trip_error(NET, (0, 4)), ("joint", 1))


class Calls(unittest.TestCase):

    def test_by_place_by_name_and_again(self):
        for value in KINDS + (NET, DOUBLE, list(NET), (5, [[0, 1]]), (5, ((0, 1), [1, 2])), (5, ({0: 1},))):
            check_calls(self, net_error, ("value",), (value,))
            check_calls(self, trip_at, ("net", "number"), (NET, value))
            check_calls(self, trip_error, ("net", "value"), (NET, value))
        for net in (NET, DOUBLE, TRIPLESS, GREATEST, chain(23, 2)):
            check_calls(self, net_error, ("value",), (net,))
            check_calls(self, trip_count, ("net",), (net,))
            for number in range(3):
                check_calls(self, trip_at, ("net", "number"), (net, number))
            for place in range(net[0]):
                check_calls(self, roads_from, ("net", "place"), (net, place))
                check_calls(self, roads_to, ("net", "place"), (net, place))
            for other in range(len(net[1])):
                check_calls(self, leads, ("net", "one", "other"), (net, 0, other))
        for value in ((0, 3), (0, 5), (0, 2), (0, [3]), (0, {})):
            check_calls(self, trip_error, ("net", "value"), (NET, value))


if __name__ == "__main__":
    unittest.main()
