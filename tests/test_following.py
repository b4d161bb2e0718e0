"""What follows from a passing: [H1] to [H5]."""

import random
import unittest

from suretrips.answering import least, most
from suretrips.explaining import explanation_error, tally_of
from suretrips.following import (apart, avoider, avoider_error, barrier, barrier_error, followers, follows, lone,
                                 ways_past)
from suretrips.nets import net_error, trip_at, trip_count
from suretrips.tallies import put_together
from tests.common import (KINDS, NO_INTEGERS, TOP, all_trips, answer, chain, check_calls, great_tallies, raised,
                          random_net, random_tally, small_tallies, some_explained, subsets, wide)

RIVER = (4, ((0, 1), (0, 1), (1, 2), (1, 3), (2, 3)))
SEEN, LATE, NONE = (5, 3, 6, 2, 6), (5, 0, 3, 2, 3), (0, 0, 0, 0, 0)
TRIPLES = tuple([(a, b) for a in range(5) for b in range(5)])


def counted_trips(net, tally):
    """All counted trips, by going through all trips; ascending."""
    return [trip for trip in all_trips(net) if all([tally[road] for road in trip])]


def trips_of(right):
    """All trips that some explanation has."""
    return {trip for told in right for trip, _ in told}


def road_pairs_of(net):
    roads = range(len(net[1]))
    return [(a, b) for a in roads for b in roads]


def avoider_fault(net, tally, a, b, value):
    """What is wrong with value as an avoider, as the document tells it."""
    if value not in all_trips(net) or any([type(road) is bool for road in value]):
        return "trip"
    if value not in counted_trips(net, tally):
        return "count"
    if a not in value:
        return "past"
    return "avoids" if b in value else None


def barrier_fault(net, tally, a, b, word, places):
    """What is wrong with (word, places) as a barrier, as the document tells it."""
    many, roads = net
    begin, end = {"before": (0, roads[a][0]), "behind": (roads[a][1], many - 1)}[word]
    if begin not in places:
        return "begin"
    if end in places:
        return "end"
    out = [road for road, (foot, head) in enumerate(roads) if foot in places and head not in places]
    out = [road for road in out if tally[road] and road != b]
    return ("road", min(out)) if out else None


class AsAllExplanationsTell(unittest.TestCase):

    def test_follows_followers_and_apart(self):
        for net, tally, right in some_explained():
            trips = trips_of(right)
            self.assertEqual(sorted(trips), counted_trips(net, tally))
            for a, b in road_pairs_of(net):
                self.assertIs(apart(net, tally, a, b), not [trip for trip in trips if a in trip and b in trip])
                if tally[a]:
                    self.assertIs(follows(net, tally, a, b), all([b in trip for trip in trips if a in trip]))
            for a in range(len(net[1])):
                if tally[a]:
                    told = tuple([b for a_, b in road_pairs_of(net) if a_ == a != b and follows(net, tally, a, b)])
                    self.assertEqual(followers(net, tally, a), told)

    def test_an_avoider_or_a_barrier_never_both(self):
        for net, tally, right in some_explained():
            trips = trips_of(right)
            for a, b in road_pairs_of(net):
                if tally[a]:
                    found, shown = avoider(net, tally, a, b), barrier(net, tally, a, b)
                    self.assertIs(found is None, all([b in trip for trip in trips if a in trip]))
                    self.assertIs(found is None, shown is not None)
                    if found is None:
                        self.assertIsNone(barrier_error(net, tally, a, b, shown))
                    else:
                        self.assertIn(found, trips)
                        self.assertIsNone(avoider_error(net, tally, a, b, found))

    def test_as_the_least_and_the_most_of_both(self):
        for net, tally in small_tallies()[::3] + great_tallies()[:12]:
            for a, b in road_pairs_of(net)[::7]:
                self.assertIs(apart(net, tally, a, b), most(net, tally, ("both", a, b)) == 0)
                if tally[a]:
                    self.assertIs(follows(net, tally, a, b), least(net, tally, ("both", a, b)) == tally[a])


class AsAllCountedTripsTell(unittest.TestCase):

    def test_ways_past(self):
        for net, tally in small_tallies():
            trips = counted_trips(net, tally)
            for a in range(len(net[1])):
                past = [trip for trip in trips if a in trip]
                self.assertEqual(ways_past(net, tally, a), (len(past), tuple(past[:10])))

    def test_the_eleventh_trip_is_left_out(self):
        for rows, columns in ((9, 1), (10, 1), (11, 1), (5, 2), (2, 6), (3, 20)):
            net = wide(rows, columns)
            trips = all_trips(net)
            tally = tally_of(net, [(trip, 2) for trip in trips])
            for a in range(rows + columns):
                past = [trip for trip in trips if a in trip]
                self.assertEqual(ways_past(net, tally, a), (len(past), tuple(past[:10])))

    def test_ways_past_of_more_trips_than_can_be_gone_through(self):
        net = chain(23, 2)
        for tally in ((1,) * 46, (TOP,) * 46):
            many, some = ways_past(net, tally, 7)
            self.assertEqual(many, 2 ** 22)
            self.assertEqual(len(some), 10)
            self.assertEqual(some[0], (0, 2, 4, 7) + tuple(range(8, 46, 2)))
            self.assertEqual(some[1], (0, 2, 4, 7) + tuple(range(8, 44, 2)) + (45,))
            self.assertEqual(list(some), sorted(some))
        half = tuple([count if road % 4 != 3 else 0 for road, count in enumerate((TOP,) * 46)])
        self.assertEqual(ways_past(net, half, 45)[0], 2 ** 11)

    def test_lone(self):
        for net, tally in small_tallies()[::2]:
            trips = counted_trips(net, tally)
            for few in (1, 2, 3, TOP):
                wanted = []
                for a, b in road_pairs_of(net):
                    if a != b and 1 <= tally[a] <= few and all([b in trip for trip in trips if a in trip]):
                        wanted.append((a, b))
                self.assertEqual(lone(net, tally, few), tuple(wanted))

    def test_nets_without_trips_and_tallies_of_noughts(self):
        for net, tally in (((3, ((1, 2),)), (0,)), (RIVER, NONE), ((4, ((0, 1), (2, 3))), (0, 0))):
            self.assertIsNone(net_error(net))
            for a in range(len(tally)):
                self.assertEqual(ways_past(net, tally, a), (0, ()))
                for b in range(len(tally)):
                    self.assertIs(apart(net, tally, a, b), True)
                    self.assertEqual(answer(follows, net, tally, a, b), raised("Unfit"))
                self.assertEqual(answer(followers, net, tally, a), raised("Unfit"))
            self.assertEqual(lone(net, tally, TOP), ())


class Uncounted(unittest.TestCase):

    def test_a_road_that_is_not_counted(self):
        for b in range(5):
            self.assertEqual(answer(follows, RIVER, LATE, 1, b), raised("Unfit"))
        self.assertEqual(answer(followers, RIVER, LATE, 1), raised("Unfit"))
        self.assertIs(apart(RIVER, LATE, 1, 1), True)
        self.assertIs(apart(RIVER, LATE, 0, 0), False)
        self.assertIs(apart(RIVER, LATE, 1, 0), True)
        self.assertIs(apart(RIVER, LATE, 4, 1), True)
        self.assertIs(follows(RIVER, LATE, 0, 1), False)
        self.assertEqual(avoider(RIVER, LATE, 4, 1), (0, 2, 4))
        self.assertIsNone(barrier(RIVER, LATE, 4, 1))

    def test_a_is_b(self):
        for a in range(5):
            self.assertIs(follows(RIVER, SEEN, a, a), True)
            self.assertIsNone(avoider(RIVER, SEEN, a, a))
            self.assertEqual(barrier(RIVER, SEEN, a, a), ("self",))
            self.assertIsNone(barrier_error(RIVER, SEEN, a, a, ("self",)))
            self.assertNotIn(a, followers(RIVER, SEEN, a))

    def test_what_was_said_of_few(self):
        self.assertEqual(lone(RIVER, (1, 1, 1, 1, 1), 1), ((2, 4), (4, 2)))
        self.assertEqual(lone(chain(2, 1), (TOP, TOP), TOP), ((0, 1), (1, 0)))
        self.assertEqual(lone(chain(2, 1), (TOP, TOP), TOP - 1), ())


class AvoiderError(unittest.TestCase):

    def test_all_trips_and_spoilt_ones(self):
        for net, tally in small_tallies()[5::31]:
            values = all_trips(net) + [trip + (0,) for trip in all_trips(net)] + [trip[1:] for trip in all_trips(net)]
            values.extend([list(trip) for trip in all_trips(net)[:1]])
            for a, b in road_pairs_of(net)[::2]:
                if tally[a]:
                    for value in values:
                        self.assertEqual(avoider_error(net, tally, a, b, value),
                                         avoider_fault(net, tally, a, b, value))

    def test_in_the_told_order(self):
        for value, error in (((1, 3), "count"), ((1, 2, 4), "count"), ((0, 2, 4), "past"), ((0, 3), None)):
            self.assertEqual(avoider_error(RIVER, LATE, 3, 2, value), error)
        self.assertEqual(avoider_error(RIVER, LATE, 0, 0, (0, 3)), "avoids")
        self.assertEqual(avoider_error(RIVER, SEEN, 4, 1, (1, 3)), "past")

    def test_values_of_all_kinds(self):
        for value in KINDS + tuple([(0, item) for item in NO_INTEGERS]) + ((0, 5), (0, -2), (0, 10 ** 399)):
            self.assertEqual(avoider_error(RIVER, SEEN, 0, 2, value), "trip")
        self.assertEqual(avoider_error((2, ((0, 1), (0, 1))), (3, 4), 1, 0, (True,)), "trip")


class BarrierError(unittest.TestCase):

    def test_all_places_of_small_nets(self):
        for net, tally in small_tallies()[3::29]:
            for a, b in road_pairs_of(net):
                if tally[a]:
                    self.assertEqual(barrier_error(net, tally, a, b, ("self",)), None if a == b else "self")
                    for places in subsets(range(net[0])):
                        for word in ("before", "behind"):
                            self.assertEqual(barrier_error(net, tally, a, b, (word, places)),
                                             barrier_fault(net, tally, a, b, word, places))

    def test_a_barrier_that_is_spoilt_at_each_place(self):
        for net, tally in small_tallies()[::13]:
            for a, b in road_pairs_of(net):
                shown = barrier(net, tally, a, b) if tally[a] and a != b else None
                if shown is not None:
                    word, places = shown
                    for at, place in enumerate(places):
                        lacking = places[:at] + places[at + 1:]
                        self.assertEqual(barrier_error(net, tally, a, b, (word, lacking)),
                                         barrier_fault(net, tally, a, b, word, lacking))
                        for item in (True, None, -1, net[0], str(place), (place,)):
                            spoilt = places[:at] + (item,) + places[at + 1:]
                            self.assertEqual(barrier_error(net, tally, a, b, (word, spoilt)), "form")
                        self.assertEqual(barrier_error(net, tally, a, b, (word, places[:at + 1] + places[at:])), "form")

    def test_form(self):
        for value in KINDS:
            self.assertEqual(barrier_error(RIVER, SEEN, 2, 4, value), "form")
            self.assertEqual(barrier_error(RIVER, SEEN, 2, 4, (value, (2,))), "form")
            self.assertEqual(barrier_error(RIVER, SEEN, 2, 4, (value,)), "form")
            if value not in subsets(range(4)) or any([type(place) is bool for place in value]):
                self.assertEqual(barrier_error(RIVER, SEEN, 2, 4, ("behind", value)), "form")
        for value in (["self"], ("self", ()), ("before",), ("behind",), "self", ("behind", (2,), ()), ["behind", (2,)],
                      ("behind", (3, 2)), ("behind", (2, 2)), ("behind", [2]), ("beside", (2,)), ("self", (2,)),
                      ("behind", (2, 4)), ("before", (-1, 0)), ("self", "self")):
            self.assertEqual(barrier_error(RIVER, SEEN, 2, 4, value), "form")
            self.assertEqual(barrier_error(RIVER, SEEN, 2, 2, value), "form")

    def test_in_the_told_order(self):
        for value, error in ((("behind", ()), "begin"), (("behind", (3,)), "begin"), (("behind", (2, 3)), "end"),
                             (("before", (2,)), "begin"), (("before", (0, 2)), ("road", 0)), (("behind", (1, 2)), ("road", 3)),
                             (("before", (0,)), ("road", 0)), (("before", (0, 1)), "end")):
            self.assertEqual(barrier_error(RIVER, SEEN, 2, 4, value), error)
        # Roads that are not counted lead nobody on.
        self.assertIsNone(barrier_error(RIVER, LATE, 2, 0, ("before", (0,))))
        self.assertEqual(barrier_error(RIVER, SEEN, 2, 0, ("before", (0,))), ("road", 1))


class Great(unittest.TestCase):

    def test_counts_and_nets_however_great(self):
        for net, tally in great_tallies()[::2]:
            ones = tuple([min(count, 1) for count in tally])
            roads = range(0, len(net[1]), 11)
            for a in [road for road in roads if tally[road]]:
                self.assertEqual(followers(net, tally, a), followers(net, ones, a))
                self.assertEqual(ways_past(net, tally, a), ways_past(net, ones, a))
                for b in roads:
                    found, shown = avoider(net, tally, a, b), barrier(net, tally, a, b)
                    if found is None:
                        self.assertIsNone(barrier_error(net, tally, a, b, shown))
                    else:
                        self.assertIsNone(shown)
                        self.assertIsNone(avoider_error(net, tally, a, b, found))

    def test_lone_of_great_nets(self):
        for net, tally in great_tallies()[9::7]:
            counted = [a for a in range(len(tally)) if tally[a]]
            pairs = [(a, b) for a in counted for b in followers(net, tally, a)]
            self.assertEqual(lone(net, tally, TOP), tuple(pairs))
            few = sorted(tally)[len(tally) // 2] + 1
            self.assertEqual(lone(net, tally, few), tuple([(a, b) for a, b in pairs if tally[a] <= few]))

    def test_following_goes_over(self):
        chance = random.Random(81)
        for _ in range(60):
            net = random_net(chance, 8, 14)
            if trip_count(net):
                tally = random_tally(chance, net, 4, TOP // 10)
                told = {a: followers(net, tally, a) for a in range(len(tally)) if tally[a]}
                for a in told:
                    for b in told[a]:
                        self.assertLessEqual(set(told[b]), set(told[a]) | {a})

    def test_with_more_roads_counted_there_are_no_more_followers(self):
        chance = random.Random(89)
        for _ in range(80):
            net = random_net(chance, 7, 14)
            if trip_count(net):
                tally, other = random_tally(chance, net, 2, 9), random_tally(chance, net, 3, TOP // 10)
                both = put_together(tally, other)
                for a in range(len(tally)):
                    if tally[a]:
                        self.assertLessEqual(set(followers(net, both, a)), set(followers(net, tally, a)))

    def test_a_road_on_alone_and_a_road_up_alone(self):
        for net, tally in small_tallies()[::5]:
            _, roads = net
            for a in [road for road in range(len(tally)) if tally[road]]:
                on = [road for road in range(len(tally)) if tally[road] and roads[road][0] == roads[a][1]]
                up = [road for road in range(len(tally)) if tally[road] and roads[road][1] == roads[a][0]]
                for alone in (on, up):
                    if len(alone) == 1:
                        self.assertIs(follows(net, tally, a, alone[0]), True)

    def test_an_avoider_stands_in_an_explanation(self):
        net, tally = chain(3, 2), (TOP,) * 6
        trip = avoider(net, tally, 2, 1)
        self.assertEqual(trip[:2], (0, 2))
        others = tuple(sorted([(trip, 1), (trip_at(net, 0) if trip != trip_at(net, 0) else trip_at(net, 1), 1)]))
        self.assertIsNone(explanation_error(net, tally_of(net, others), others))


class Calls(unittest.TestCase):

    def test_by_place_by_name_and_again(self):
        for tally in (SEEN, LATE, NONE):
            for a, b in TRIPLES:
                for function in (follows, apart):
                    check_calls(self, function, ("net", "tally", "a", "b"), (RIVER, tally, a, b))
                if tally[a]:
                    for function in (avoider, barrier):
                        check_calls(self, function, ("net", "tally", "a", "b"), (RIVER, tally, a, b))
            for a in range(5):
                for function in (followers, ways_past):
                    check_calls(self, function, ("net", "tally", "a"), (RIVER, tally, a))
            for few in (1, 2, 5, TOP):
                check_calls(self, lone, ("net", "tally", "few"), (RIVER, tally, few))
        for value in KINDS + ((0, 3), (0, 2, 4), (1, 3), ("self",), ("behind", (2,)), ("before", [0])):
            for function in (avoider_error, barrier_error):
                check_calls(self, function, ("net", "tally", "a", "b", "value"), (RIVER, SEEN, 2, 4, value))


if __name__ == "__main__":
    unittest.main()
