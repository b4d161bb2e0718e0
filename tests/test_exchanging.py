"""Exchanges of tails: [C4], [C5], and of [C6] what it says of them."""

import random
import unittest

from suretrips.exchanging import exchanged, exchanges
from suretrips.explaining import all_explained, explained, explanation_error, tally_of
from suretrips.nets import trip_at, trip_count
from tests.common import (TOP, all_trips, answer, chain, check_calls, great_tallies, raised, shuffled, some_explained,
                          wide)

NET, TALLY = (5, ((0, 1), (0, 1), (1, 2), (1, 3), (2, 3), (2, 4), (3, 4))), (5, 3, 6, 2, 4, 2, 6)
TOLD = (((0, 2, 4, 6), 4), ((0, 3, 6), 1), ((1, 2, 5), 2), ((1, 3, 6), 1))
CROSS = (3, ((0, 1), (0, 1), (1, 2), (1, 2)))
UNFIT = raised("Unfit")


def exchange_of_people(net, people, step):
    """People, a list of trips, after step, each of whom goes on as another one did; None if it is no exchange."""
    many, roads = net
    one, other, place, times = step
    if one == other or times < 1 or place in (0, many - 1):
        return None
    if people.count(one) < times or people.count(other) < times:
        return None
    ends = [[roads[road][1] for road in trip] for trip in (one, other)]
    if place not in ends[0] or place not in ends[1]:
        return None
    mine, theirs = ends[0].index(place) + 1, ends[1].index(place) + 1
    people = list(people)
    for _ in range(times):
        people.remove(one)
        people.remove(other)
    return people + [one[:mine] + other[theirs:], other[:theirs] + one[mine:]] * times


def own_exchanged(net, explanation, steps):
    """What exchanged has to tell, person by person."""
    people = [trip for trip, times in explanation for _ in range(times)]
    for step in steps:
        people = exchange_of_people(net, people, step)
        if people is None:
            return UNFIT
    return ("returns", repr(tuple([(trip, people.count(trip)) for trip in sorted(set(people))])))


def random_step(chance, net, trips, most):
    many, _ = net
    return (chance.choice(trips), chance.choice(trips), chance.randint(0, many - 1), chance.randint(0, most))


class Exchanged(unittest.TestCase):

    def check(self, explanation, steps, wanted):
        self.assertEqual(exchanged(NET, explanation, steps), wanted)
        self.assertEqual(own_exchanged(NET, explanation, steps), ("returns", repr(wanted)))

    def check_unfit(self, explanation, *steps):
        self.assertEqual(answer(exchanged, NET, explanation, steps), UNFIT, steps)

    def test_no_steps(self):
        self.check(TOLD, (), TOLD)
        self.check((), (), ())

    def test_times_move_from_two_trips_to_two_others(self):
        self.check(TOLD, (((0, 2, 4, 6), (1, 2, 5), 2, 1),),
                   (((0, 2, 4, 6), 3), ((0, 2, 5), 1), ((0, 3, 6), 1), ((1, 2, 4, 6), 1), ((1, 2, 5), 1), ((1, 3, 6), 1)))
        self.check(TOLD, (((0, 2, 4, 6), (1, 3, 6), 1, 1),),
                   (((0, 2, 4, 6), 3), ((0, 3, 6), 2), ((1, 2, 4, 6), 1), ((1, 2, 5), 2)))

    def test_which_trip_is_told_first_tells_nothing(self):
        for place in (1, 2):
            self.assertEqual(exchanged(NET, TOLD, (((0, 2, 4, 6), (1, 2, 5), place, 2),)),
                             exchanged(NET, TOLD, (((1, 2, 5), (0, 2, 4, 6), place, 2),)))

    def test_just_as_many_as_there_are_and_one_more(self):
        step = ((0, 2, 4, 6), (1, 2, 5), 1)
        self.check(TOLD, (step + (2,),), (((0, 2, 4, 6), 2), ((0, 2, 5), 2), ((0, 3, 6), 1), ((1, 2, 4, 6), 2), ((1, 3, 6), 1)))
        self.check_unfit(TOLD, step + (3,))
        self.check_unfit(TOLD, step + (2,), step + (1,))
        self.check_unfit(TOLD, ((0, 2, 4, 6), (0, 3, 6), 3, 2))
        even = (((0, 2), 3), ((1, 3), 3))
        self.assertEqual(exchanged(CROSS, even, (((0, 2), (1, 3), 1, 3),)), (((0, 3), 3), ((1, 2), 3)))
        self.assertEqual(answer(exchanged, CROSS, even, (((0, 2), (1, 3), 1, 4),)), UNFIT)

    def test_alike_heads_or_tails(self):
        for step in (((0, 2, 4, 6), (0, 3, 6), 1, 1), ((0, 2, 4, 6), (0, 3, 6), 3, 1), ((0, 3, 6), (1, 3, 6), 1, 1),
                     ((0, 3, 6), (1, 3, 6), 3, 1), ((1, 2, 5), (1, 3, 6), 1, 1), ((1, 3, 6), (0, 2, 4, 6), 3, 1)):
            self.assertEqual(answer(exchanged, NET, TOLD, (step,)), own_exchanged(NET, TOLD, (step,)))
        alike = (((0, 2, 4, 6), 2), ((0, 2, 5), 2), ((1, 2, 5), 2))
        self.check(alike, (((0, 2, 4, 6), (0, 2, 5), 2, 2),), alike)
        self.check(alike, (((0, 2, 4, 6), (0, 2, 5), 1, 2),), alike)
        self.check(alike, (((0, 2, 5), (1, 2, 5), 2, 1),), alike)
        self.check(alike, (((1, 2, 5), (0, 2, 5), 1, 2),), alike)

    def test_no_exchanges(self):
        self.check_unfit(TOLD, ((0, 2, 4, 6), (0, 2, 4, 6), 1, 1))
        for times in (0, -1, -10 ** 30):
            self.check_unfit(TOLD, ((0, 2, 4, 6), (1, 2, 5), 1, times))
        for place in (0, 3, 4, 5, -1, 10 ** 30):
            self.check_unfit(TOLD, ((0, 2, 4, 6), (1, 2, 5), place, 1))
        self.check_unfit(TOLD, ((0, 3, 6), (0, 2, 4, 6), 2, 1))
        for trip in ((), (0,), (0, 2), (9,), (-1,), (0, 2, 5), (1, 2, 4, 6), (2, 4, 6)):
            self.check_unfit(TOLD, ((0, 2, 4, 6), trip, 1, 1))
            self.check_unfit(TOLD, (trip, (0, 2, 4, 6), 1, 1))
        self.check_unfit((), ((0, 3, 6), (1, 2, 5), 1, 1))

    def test_each_step_meets_what_the_one_ahead_made(self):
        there, back = ((0, 2, 4, 6), (1, 2, 5), 1, 2), ((0, 2, 5), (1, 2, 4, 6), 2, 2)
        self.check(TOLD, (there, back), TOLD)
        self.check(TOLD, (there, back) * 5, TOLD)
        self.check_unfit(TOLD, back, there)
        self.check_unfit(TOLD, there, there)
        self.check_unfit(TOLD, there, back, back)

    def test_beside_an_exchanging_person_by_person(self):
        chance = random.Random(31)
        met = {"returns": 0, "raises": 0}
        for net, tally, right in some_explained():
            told = chance.choice(right)
            steps, now = (), told
            for _ in range(40 if told else 0):
                step = random_step(chance, net, [trip for trip, _ in now], 3)
                wanted = own_exchanged(net, told, steps + (step,))
                self.assertEqual(answer(exchanged, net, told, steps + (step,)), wanted, (net, told, steps, step))
                met[wanted[0]] += 1
                if wanted != UNFIT and len(steps) < 6:
                    steps += (step,)
                    now = exchanged(net, told, steps)
        self.assertGreater(min(met.values()), 200)

    def test_an_explanation_of_the_same_tally_comes(self):
        chance = random.Random(32)
        for net, tally, right in some_explained():
            for told in right[:3]:
                for _ in range(4):
                    if told:
                        step = random_step(chance, net, [trip for trip, _ in told], 2)
                        if answer(exchanged, net, told, (step,)) != UNFIT:
                            self.assertIn(exchanged(net, told, (step,)), right)

    def test_great_times(self):
        told = (((0, 2), 10 ** 30), ((1, 3), 10 ** 30 - 1))
        self.assertEqual(exchanged(CROSS, told, (((0, 2), (1, 3), 1, 10 ** 30 - 1),)),
                         (((0, 2), 1), ((0, 3), 10 ** 30 - 1), ((1, 2), 10 ** 30 - 1)))
        self.assertEqual(answer(exchanged, CROSS, told, (((0, 2), (1, 3), 1, 10 ** 30),)), UNFIT)


class Exchanges(unittest.TestCase):

    def check_led(self, net, one, other):
        steps = exchanges(net, one, other)
        self.assertIs(type(steps), tuple)
        self.assertEqual(exchanged(net, one, steps), other)
        if one == other:
            self.assertEqual(steps, ())
        return steps

    def test_any_two_explanations_of_small_tallies(self):
        for net, tally, right in some_explained():
            for one in right[:6] + right[-6:]:
                for other in right[:6] + right[-6:]:
                    steps = self.check_led(net, one, other)
                    self.assertEqual(own_exchanged(net, one, steps), ("returns", repr(other)))

    def test_all_explanations_of_one_tally(self):
        right = all_explained(NET, TALLY)
        for one in right:
            for other in right:
                self.check_led(NET, one, other)

    def test_unlike_tallies(self):
        for one, other in ((TOLD, ()), ((), TOLD), (TOLD, TOLD[1:]), (TOLD, TOLD[:3] + (((1, 3, 6), 2),)),
                           ((((0, 3, 6), 1),), (((1, 3, 6), 1),)), ((((0, 3, 6), 1),), (((0, 3, 6), 2),))):
            self.assertEqual(answer(exchanges, NET, one, other), UNFIT)
        self.assertEqual(exchanges(NET, (), ()), ())

    def test_equal_explanations(self):
        for net, tally in great_tallies():
            told = explained(net, tally)
            self.assertEqual(exchanges(net, told, told), ())

    def test_great_tallies(self):
        chance = random.Random(33)
        for net, tally in great_tallies():
            least = explained(net, tally)
            one, other = shuffled(chance, net, tally, 150), shuffled(chance, net, tally, 100)
            self.assertIsNone(explanation_error(net, tally, least))
            for start, goal in ((least, one), (one, least), (one, other)):
                self.check_led(net, start, goal)

    def test_very_many_trips(self):
        for net in (chain(9, 2), wide(30, 30), wide(29, 31)):
            one = tuple([(trip, 1 + at) for at, trip in enumerate(all_trips(net))])
            other = explained(net, tally_of(net, one))
            self.check_led(net, one, other)
            self.check_led(net, other, one)

    def test_two_hundred_trips_through_a_long_chain(self):
        net, chance = chain(23, 2), random.Random(34)
        times_of = {trip_at(net, chance.randrange(trip_count(net))): chance.randint(1, TOP // 200) for _ in range(200)}
        one = tuple(sorted(times_of.items()))
        other = explained(net, tally_of(net, one))
        self.check_led(net, one, other)
        self.check_led(net, other, one)


class Calls(unittest.TestCase):

    def test_by_place_by_name_and_again(self):
        goal = explained(NET, TALLY)
        first = {}
        for _ in range(2):
            for net, one, other in ((NET, TOLD, goal), (NET, goal, TOLD), (NET, TOLD, TOLD[1:]), (NET, (), ()),
                                    (CROSS, (((0, 2), 3), ((1, 3), 3)), (((0, 3), 3), ((1, 2), 3)))):
                told = check_calls(self, exchanges, ("net", "one", "other"), (net, one, other))
                self.assertEqual(first.setdefault((net, one, other), told), told)
                if told != UNFIT:
                    check_calls(self, exchanged, ("net", "explanation", "steps"), (net, one, exchanges(net, one, other)))
            check_calls(self, exchanged, ("net", "explanation", "steps"), (NET, TOLD, (((0, 3, 6), (0, 2, 4, 6), 9, 1),)))


if __name__ == "__main__":
    unittest.main()
