"""The nets of plans, and their counts: [K4] to [K7]."""

import random
import unittest
from functools import cache

from suretrips.nets import net_error, trip_at, trip_count
from suretrips.tallies import put_together, tally_error
from suretrips.unrolling import (counts_error, counts_of, place_of, road_of, tally_of_plan, told_back, unrolled,
                                 wait_of)
from tests.common import (KINDS, NO_INTEGERS, TOP, all_trips, answer, check_calls, raised, random_counts, random_plan,
                          random_tally, some_plans, walk)

SHOP = (2, 3, ((-1, 0, 0), (0, 1, 1), (1, -1, 0), (0, -1, 0)))
DAY = ((5, 3, 0), (2, 1), (0, 2, 1), (1, 0, 2))


def room_place(plan, room, beat):
    """The place of a room at a beat, by counting on."""
    rooms, beats, _ = plan
    places = [None] + [(other, hour) for hour in range(beats) for other in range(rooms)]
    return places.index((room, beat))


def told_roads(plan):
    """Each road of the net as (what it is, foot, head), as the document tells them, in order."""
    rooms, beats, doors = plan
    last = rooms * beats + 1
    found = []
    for door, (one, other, time) in enumerate(doors):
        for beat in range(beats):
            foot = 0 if one == -1 else room_place(plan, one, beat)
            if other == -1:
                found.append((("door", door, beat), foot, last))
            elif beat + time < beats:
                found.append((("door", door, beat), foot, room_place(plan, other, beat + time)))
    for room in range(rooms):
        for beat in range(beats - 1):
            found.append((("wait", room, beat), room_place(plan, room, beat), room_place(plan, room, beat + 1)))
        found.append((("stay", room, beats - 1), room_place(plan, room, beats - 1), last))
    return found


@cache
def some_counts():
    """Pairs of a plan and counts of it, small and great ones."""
    chance = random.Random(101)
    cases = []
    for plan in some_plans():
        cases.extend([(plan, random_counts(chance, plan, most)) for most in (0, 1, 3, 20, TOP // 60)])
    return cases


def spoilt(chance, counts):
    """counts with one of them other than it was."""
    doors = [door for door, part in enumerate(counts) if part]
    if not doors:
        return counts
    door = chance.choice(doors)
    beat = chance.randrange(len(counts[door]))
    part = counts[door][:beat] + (counts[door][beat] + chance.choice((1, 2, 5)),) + counts[door][beat + 1:]
    return counts[:door] + (part,) + counts[door + 1:]


class Unrolled(unittest.TestCase):

    def test_roads_in_order(self):
        for plan in some_plans():
            net = unrolled(plan)
            self.assertEqual(net, (plan[0] * plan[1] + 2, tuple([(foot, head) for _, foot, head in told_roads(plan)])))
            self.assertIsNone(net_error(net))

    def test_the_least_plan(self):
        self.assertEqual(unrolled((1, 1, ((-1, 0, 0),))), (3, ((0, 1), (1, 2))))
        self.assertEqual(unrolled((1, 1, ((0, -1, 0), (0, -1, 0)))), (3, ((1, 2), (1, 2), (1, 2))))
        self.assertEqual(all_trips(unrolled((1, 1, ((0, -1, 0),)))), [])

    def test_doors_that_take_longer_than_the_beats(self):
        self.assertEqual(unrolled((2, 1, ((0, 1, 1),))), (4, ((1, 3), (2, 3))))
        self.assertEqual(unrolled((2, 2, ((0, 1, 2), (1, 0, 1), (0, 1, 6)))), (6, ((2, 3), (1, 3), (3, 5), (2, 4), (4, 5))))

    def test_places(self):
        for plan in some_plans():
            rooms, beats, _ = plan
            told = [place_of(plan, room, beat) for beat in range(beats) for room in range(rooms)]
            self.assertEqual(told, list(range(1, rooms * beats + 1)))

    def test_each_road_is_told_once(self):
        for plan in some_plans():
            rooms, beats, doors = plan
            what = [told for told, _, _ in told_roads(plan)]
            found = []
            for door in range(len(doors)):
                for beat in range(beats):
                    if ("door", door, beat) in what:
                        self.assertEqual(road_of(plan, door, beat), what.index(("door", door, beat)))
                        found.append(road_of(plan, door, beat))
                    else:
                        self.assertEqual(answer(road_of, plan, door, beat), raised("Unfit"))
            for room in range(rooms):
                for beat in range(beats):
                    word = "stay" if beat == beats - 1 else "wait"
                    self.assertEqual(wait_of(plan, room, beat), what.index((word, room, beat)))
                    found.append(wait_of(plan, room, beat))
            self.assertEqual(sorted(found), list(range(len(what))))

    def test_trips_are_the_ways_of_somebody(self):
        for plan in some_plans()[:40]:
            if trip_count(unrolled(plan)) < 3000:
                self.assertEqual(sorted([told_back(plan, trip) for trip in all_trips(unrolled(plan))]), sorted(ways_of(plan)))


def ways_of(plan):
    """All ways of somebody: in by a door, then at each beat through a door or waiting, until outside, or staying."""
    _, beats, doors = plan
    begun, done = [], []
    for door, (one, other, _) in enumerate(doors):
        if one == -1:
            begun.extend([((("door", door, beat),), other, beat) for beat in range(beats)])
    while begun:
        way, room, beat = begun.pop()
        for door, (one, other, time) in enumerate(doors):
            if one == room and other == -1:
                done.append(way + (("door", door, beat),))
            elif one == room and beat + time < beats:
                begun.append((way + (("door", door, beat),), other, beat + time))
        if beat == beats - 1:
            done.append(way + (("stay", room, beat),))
        else:
            begun.append((way + (("wait", room, beat),), room, beat + 1))
    return done


class ToldBack(unittest.TestCase):

    def test_each_road(self):
        chance = random.Random(102)
        for plan in some_plans():
            net, what = unrolled(plan), [told for told, _, _ in told_roads(plan)]
            many = trip_count(net)
            for number in chance.sample(range(many), min(many, 20)) if many < 10 ** 6 else range(20):
                trip = trip_at(net, number)
                self.assertEqual(told_back(plan, trip), tuple([what[road] for road in trip]))

    def test_one_that_goes_through_all(self):
        self.assertEqual(told_back(SHOP, (1, 4, 7)), (("door", 0, 1), ("door", 1, 1), ("door", 2, 2)))
        self.assertEqual(told_back(SHOP, (2, 13)), (("door", 0, 2), ("stay", 0, 2)))
        self.assertEqual(told_back(SHOP, (0, 11, 12, 13)), (("door", 0, 0), ("wait", 0, 0), ("wait", 0, 1), ("stay", 0, 2)))
        self.assertEqual(told_back((1, 1, ((-1, 0, 0),)), (0, 1)), (("door", 0, 0), ("stay", 0, 0)))


class CountsError(unittest.TestCase):

    def check(self, value, error):
        self.assertEqual(counts_error(SHOP, value), error, value)

    def test_as_a_walk_tells(self):
        chance = random.Random(103)
        lacks = 0
        for plan, counts in some_counts():
            self.assertIsNone(counts_error(plan, counts))
            for _ in range(3):
                counts = spoilt(chance, counts)
                _, lack = walk(plan, counts)
                self.assertEqual(counts_error(plan, counts), lack)
                lacks += lack is not None
        self.assertGreater(lacks, 300)

    def test_form(self):
        for value in KINDS + (list(DAY), DAY[:3], DAY + ((),), ()):
            self.check(value, "form" if value != (0,) * 4 else None)

    def test_doors(self):
        for door, part in enumerate(DAY):
            for value in KINDS:
                if value not in ((0, 1), (0, 1, 2)) or len(value) != len(part):
                    self.check(DAY[:door] + (value,) + (None,) * (3 - door), ("door", door))
            for value in (list(part), part + (0,), part[1:], ()):
                self.check(DAY[:door] + (value,) + DAY[door + 1:], ("door", door))
            for beat in range(len(part)):
                for item in NO_INTEGERS + (-1, TOP + 1, 10 ** 399):
                    self.check(DAY[:door] + (part[:beat] + (item,) + part[beat + 1:],) + DAY[door + 1:], ("door", door))
        self.check(((TOP, TOP, TOP), (TOP, TOP), (0, TOP, TOP), (0, 0, TOP)), None)

    def test_the_least_beat_then_the_least_room(self):
        for value, error in ((((0, 0, 0), (0, 0), (1, 0, 0), (1, 0, 0)), ("lack", 0, 0)), (((0, 0, 0), (0, 0), (1, 0, 0), (0, 1, 0)), ("lack", 1, 0)),
                             (((0, 0, 0), (0, 0), (0, 0, 1), (0, 1, 0)), ("lack", 0, 1)), (((0, 0, 0), (0, 1), (0, 1, 0), (0, 0, 0)), ("lack", 0, 1)),
                             (((1, 0, 0), (1, 0), (0, 1, 0), (0, 0, 0)), None), (((1, 0, 0), (1, 0), (0, 2, 0), (0, 0, 0)), ("lack", 1, 1)),
                             (((1, 0, 0), (1, 0), (0, 0, 1), (0, 0, 0)), None), (((1, 0, 0), (0, 0), (0, 0, 0), (0, 1, 1)), ("lack", 0, 2)),
                             (((0, 0, 1), (0, 0), (0, 0, 0), (0, 0, 1)), None), (((0, 0, 1), (0, 0), (0, 0, 0), (0, 0, 2)), ("lack", 0, 2))):
            self.check(value, error)

    def test_rooms_that_run_empty(self):
        self.check(((5, 0, 0), (5, 0), (0, 5, 0), (0, 0, 0)), None)
        self.check(((5, 0, 0), (5, 1), (0, 5, 0), (0, 0, 0)), ("lack", 0, 1))
        # Who comes through a door within the same beat is not there yet.
        self.check(((5, 0, 0), (5, 0), (1, 0, 0), (0, 0, 0)), ("lack", 1, 0))

    def test_doors_without_roads(self):
        plan = (2, 2, ((0, 1, 2), (-1, 0, 0)))
        self.assertIsNone(counts_error(plan, ((), (1, 2))))
        self.assertEqual(counts_error(plan, ((0,), (1, 2))), ("door", 0))
        self.assertEqual(tally_of_plan(plan, ((), (1, 2))), (1, 2, 1, 3, 0, 0))


class TallyOfPlan(unittest.TestCase):

    def test_as_a_walk_tells(self):
        for plan, counts in some_counts():
            rooms, beats, _ = plan
            waits, lack = walk(plan, counts)
            self.assertIsNone(lack)
            wanted = [count for part in counts for count in part]
            wanted.extend([waits[room, beat] for room in range(rooms) for beat in range(beats)])
            tally = tally_of_plan(plan, counts)
            self.assertEqual(tally, tuple(wanted))
            self.assertIsNone(tally_error(unrolled(plan), tally))
            self.assertEqual(counts_of(plan, tally), counts)

    def test_counts_of_a_tally_and_back(self):
        chance = random.Random(104)
        for plan in some_plans():
            net = unrolled(plan)
            if trip_count(net):
                tally = random_tally(chance, net, 9, TOP // 20)
                counts = counts_of(plan, tally)
                self.assertIsNone(counts_error(plan, counts))
                self.assertEqual(tally_of_plan(plan, counts), tally)

    def test_put_together(self):
        chance = random.Random(105)
        for plan in some_plans():
            one, other = random_counts(chance, plan, 9), random_counts(chance, plan, TOP // 100)
            both = tuple([tuple([count + more for count, more in zip(part, parts)]) for part, parts in zip(one, other)])
            self.assertEqual(tally_of_plan(plan, both), put_together(tally_of_plan(plan, one), tally_of_plan(plan, other)))

    def test_bad_tally(self):
        chance = random.Random(106)
        for value in KINDS + (list(DAY), DAY[:3], DAY[:1] + ((1, True),) + DAY[2:], DAY[:2] + ((1, 2, 1),) + DAY[3:]):
            self.assertEqual(answer(tally_of_plan, SHOP, value), raised("BadTally", error=counts_error(SHOP, value)))
        for plan, counts in some_counts()[::4]:
            counts = spoilt(chance, spoilt(chance, counts))
            error = counts_error(plan, counts)
            if error is not None:
                self.assertEqual(answer(tally_of_plan, plan, counts), raised("BadTally", error=error))

    def test_as_many_waiting_as_may_and_one_more(self):
        plan = (1, 3, ((-1, 0, 0), (-1, 0, 0), (0, -1, 0)))
        for counts, tally in ((((TOP, 0, 0), (0, 0, 0), (0, 0, 0)), (TOP,) * 3), (((TOP, 0, 0), (1, 0, 0), (1, 0, 0)), (TOP,) * 3),
                              (((TOP, 1, 0), (0, 0, TOP), (0, 1, TOP)), (TOP, TOP, TOP)), (((TOP,) * 3, (0,) * 3, (TOP,) * 3), (0, 0, 0))):
            self.assertEqual(tally_of_plan(plan, counts)[9:], tally)
        for counts in (((TOP, 0, 0), (1, 0, 0), (0, 1, 0)), ((TOP, 1, 0), (0, 0, 0), (0, 0, 1)), ((TOP, TOP, TOP),) * 2 + ((0, 0, 0),),
                       ((TOP, 0, 1), (0, 0, 0), (0, 0, 0)), ((0, 0, TOP), (0, 0, TOP), (0, 0, TOP - 1))):
            self.assertIsNone(counts_error(plan, counts))
            self.assertEqual(answer(tally_of_plan, plan, counts), raised("TooMany", limit=TOP))
        # What lacks is told ahead of that.
        self.assertEqual(answer(tally_of_plan, SHOP, ((TOP, TOP, 0), (0, 0), (0, 0, 1), (0, 0, 0))), raised("BadTally", error=("lack", 1, 2)))

    def test_who_waits_and_who_stays(self):
        plan = (2, 2, ((-1, 0, 0), (0, 1, 1)))
        self.assertEqual(tally_of_plan(plan, ((4, 1), (3,))), (4, 1, 3, 1, 2, 0, 3))


class Calls(unittest.TestCase):

    def test_by_place_by_name_and_again(self):
        chance = random.Random(107)
        for plan in some_plans()[:9] + [random_plan(chance, 6, 6, 12) for _ in range(9)]:
            net = unrolled(plan)
            check_calls(self, unrolled, ("plan",), (plan,))
            for beat in range(plan[1]):
                for function in (place_of, wait_of):
                    check_calls(self, function, ("plan", "room", "beat"), (plan, plan[0] - 1, beat))
                check_calls(self, road_of, ("plan", "door", "beat"), (plan, len(plan[2]) - 1, beat))
            counts = random_counts(chance, plan, 5)
            for value in (counts, spoilt(chance, counts), list(counts), None):
                check_calls(self, counts_error, ("plan", "value"), (plan, value))
                check_calls(self, tally_of_plan, ("plan", "counts"), (plan, value))
            check_calls(self, counts_of, ("plan", "tally"), (plan, tally_of_plan(plan, counts)))
            if trip_count(net):
                check_calls(self, told_back, ("plan", "trip"), (plan, trip_at(net, 0)))


if __name__ == "__main__":
    unittest.main()
