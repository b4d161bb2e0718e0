"""Greatest flows, cuts and endless ways: [E1] to [E3], and of [E5] what it says of them."""

import random
import unittest
from itertools import product

from suretrips.flows import flow_error, greatest_flow
from tests.common import KINDS, NO_INTEGERS, chain, check_calls, random_net, small_nets, subsets, wide

TOWN, COUNTS = (4, ((0, 1), (0, 2), (1, 2), (1, 3), (2, 3))), (5, 4, 2, 3, 6)
OPEN = (None, 0, None, 0, 7)
HUGE = 10 ** 180


def leaves(road, ends, foot, head, cut):
    return foot in cut and (head not in cut or road in ends)


def least_cut(net, room, feet, heads, ends):
    """The least room of all cuts; None if all have a road without bound that leaves them."""
    many, roads = net
    found = []
    for more in subsets([place for place in range(many) if place not in feet and place not in heads]):
        cut = set(feet) | set(more)
        rooms = [room[road] for road, (foot, head) in enumerate(roads) if leaves(road, ends, foot, head, cut)]
        if None not in rooms:
            found.append(sum(rooms))
    return min(found, default=None)


def worth_of(net, feet, ends, flow):
    return (sum([flow[road] for road, (foot, _) in enumerate(net[1]) if foot in feet])
            - sum([flow[road] for road, (_, head) in enumerate(net[1]) if head in feet and road not in ends]))


def uneven_places(net, feet, heads, ends, flow):
    """The places, neither in feet nor in heads, at which not as much goes away as comes."""
    many, roads = net
    found = []
    for place in range(many):
        away = sum([flow[road] for road, (foot, _) in enumerate(roads) if foot == place])
        come = sum([flow[road] for road, (_, head) in enumerate(roads) if head == place and road not in ends])
        if place not in feet and place not in heads and away != come:
            found.append(place)
    return found


def greatest_of_all(net, room, feet, heads, ends):
    """The greatest value of all flows, by trying all of them."""
    flows = product(*[range(most + 1) for most in room])
    return max([worth_of(net, feet, ends, flow) for flow in flows if not uneven_places(net, feet, heads, ends, flow)])


def is_way(net, room, feet, heads, ends, way):
    """Whether way is an endless way, word by word as the document tells."""
    roads = net[1]
    if not way or any([type(road) is not int or not 0 <= road < len(roads) for road in way]):
        return False
    places = [roads[road] for road in way]
    joined = all([one[1] == other[0] for one, other in zip(places, places[1:])])
    last = places[-1][1] in heads or way[-1] in ends
    unbound = all([room[road] is None for road in way])
    return joined and unbound and last and places[0][0] in feet and not any([road in ends for road in way[:-1]])


def own_error(net, room, feet, heads, ends, value):
    """What flow_error has to tell of a triple of an integer or None and two tuples."""
    many, roads = net
    worth, flow, cut = value
    if worth is None:
        if not is_way(net, room, feet, heads, ends, flow):
            return "way"
        return None if cut == () else "cut"
    for road in range(max(len(roads), len(flow))):
        item = flow[road] if road < min(len(roads), len(flow)) else None
        if type(item) is not int or item < 0 or (room[road] is not None and item > room[road]):
            return ("road", road)
    for place in uneven_places(net, feet, heads, ends, flow):
        return ("place", place)
    if any([type(place) is not int or not 0 <= place < many for place in cut]) or list(cut) != sorted(set(cut)):
        return "cut"
    if not set(feet) <= set(cut) or set(heads) & set(cut):
        return "cut"
    rooms = [room[road] for road, (foot, head) in enumerate(roads) if leaves(road, ends, foot, head, cut)]
    return None if None not in rooms and worth_of(net, feet, ends, flow) == worth == sum(rooms) else "value"


def random_case(chance, net, rooms):
    """A net with rooms, feet, heads and ends drawn by chance."""
    many, roads = net
    places = list(range(many))
    feet = sorted(chance.sample(places, chance.choice((1, 1, 1, min(2, many)))))
    others = [place for place in places if place not in feet]
    heads = sorted(chance.sample(others, chance.randint(0, min(2, len(others)))))
    ends = sorted(chance.sample(range(len(roads)), chance.choice((0, 0, 1, min(2, len(roads)), len(roads)))))
    return (net, tuple([chance.choice(rooms) for _ in roads]), tuple(feet), tuple(heads), tuple(ends))


def small_flow_cases():
    chance = random.Random(41)
    cases = []
    for net in small_nets(3, 3):
        cases.append(random_case(chance, net, (0, 1, 2)))
        cases.append(random_case(chance, net, (0, 1, None)))
    for _ in range(600):
        net = random_net(chance, chance.randint(2, 6), 9)
        cases.append(random_case(chance, net, chance.choice(((0, 1, 2, 5), (0, 1, 3, None), (0, 2, None, None)))))
    return cases


def spoilt(chance, value):
    """A triple with something changed by chance."""
    worth, flow, cut = value
    spots = chance.randint(0, 5)
    at = chance.randint(0, len(flow))
    if spots == 0:
        return ((None if chance.random() < 0.2 else (worth or 0) + chance.choice((-1, 1))), flow, cut)
    if spots == 1:
        return (worth, flow[:at] + (chance.choice((-1, 0, 1, 2, True, None, "1", 9)),) + flow[at + 1:], cut)
    if spots == 2:
        return (worth, chance.choice((flow[:at], flow + (0,), flow[:at] + flow[at + 1:])), cut)
    if spots == 3:
        return (worth, flow, tuple([place for place in cut if chance.random() < 0.6]))
    if spots == 4:
        return (worth, flow, tuple(sorted({*[place for place in cut if place], chance.randint(0, 5)})))
    return (worth, flow, chance.choice((cut[::-1], cut + (-1,), cut + (None,), cut * 2, (0,), (0, True))))


class GreatestFlow(unittest.TestCase):

    def check(self, *case):
        told = greatest_flow(*case)
        self.assertIs(type(told), tuple)
        self.assertIsNone(flow_error(*case, told), case)
        self.assertIsNone(own_error(*case, told), case)
        return told[0]

    def test_beside_all_cuts(self):
        met = [0, 0]
        for case in small_flow_cases():
            wanted = least_cut(*case)
            self.assertEqual(self.check(*case), wanted, case)
            met[wanted is None] += 1
        self.assertGreater(min(met), 100)

    def test_beside_all_small_flows(self):
        chance = random.Random(42)
        for net in small_nets(3, 3)[::2] + [random_net(chance, chance.randint(3, 5), 6) for _ in range(120)]:
            case = random_case(chance, net, (0, 1, 2))
            self.assertEqual(self.check(*case), greatest_of_all(*case), case)

    def test_no_heads_and_no_ends(self):
        self.assertEqual(self.check(TOWN, COUNTS, (0,), (), ()), 0)
        self.assertEqual(self.check(TOWN, (None,) * 5, (0,), (), ()), 0)
        self.assertEqual(self.check(TOWN, (None,) * 5, (0, 1, 2, 3), (), ()), 0)
        self.assertEqual(self.check(TOWN, COUNTS, (0, 1, 2, 3), (), (0, 1, 2, 3, 4)), 20)

    def test_heads_that_nothing_leads_to(self):
        self.assertEqual(self.check(TOWN, COUNTS, (3,), (0,), ()), 0)
        self.assertEqual(self.check(TOWN, COUNTS, (2,), (0, 1), ()), 0)
        self.assertEqual(self.check(TOWN, (None,) * 5, (1, 2), (0,), ()), 0)
        self.assertEqual(self.check((3, ((1, 2),)), (5,), (0,), (2,), ()), 0)

    def test_what_goes_along_ends_comes_to_no_place(self):
        line = (3, ((0, 1), (1, 2)))
        self.assertEqual(self.check(line, (5, 3), (0,), (2,), ()), 3)
        self.assertEqual(self.check(line, (5, 3), (0,), (2,), (0,)), 5)
        self.assertEqual(self.check(line, (5, 3), (0,), (), (1,)), 3)
        self.assertEqual(self.check(line, (5, 3), (0,), (), (0, 1)), 5)
        self.assertEqual(self.check(line, (5, 3), (0, 1), (), (0, 1)), 8)
        self.assertEqual(self.check(line, (5, 3), (0, 1), (), (0,)), 5)

    def test_a_way_may_have_to_go_back(self):
        net = (6, ((0, 1), (0, 2), (1, 3), (1, 4), (2, 3), (3, 5), (4, 5)))
        self.assertEqual(self.check(net, (1,) * 7, (0,), (5,), ()), 2)

    def test_rooms_of_0_and_great_ones(self):
        for room in (0, 1, 10 ** 30, HUGE, 10 ** 500):
            self.assertEqual(self.check(TOWN, (room,) * 5, (0,), (3,), ()), 2 * room)
            self.assertEqual(self.check(TOWN, (room, None, None, None, room), (0,), (3,), ()), 2 * room)
            self.assertEqual(self.check(chain(23, 2), (room,) * 46, (0,), (23,), ()), 2 * room)
            self.assertEqual(self.check(chain(23, 2), (None, room) * 22 + (room, room), (0,), (23,), ()), 2 * room)
            self.assertEqual(self.check(wide(30, 30), (room,) * 60, (0,), (2,), ()), 30 * room)
        self.assertEqual(self.check(TOWN, (HUGE, 1, HUGE - 1, 1, HUGE), (0,), (3,), ()), HUGE + 1)
        self.assertEqual(self.check((2, ((0, 1),) * 60), tuple(range(60)), (0,), (1,), ()), sum(range(60)))
        self.assertEqual(self.check((2, ((0, 1),) * 60), (HUGE,) * 60, (0,), (), tuple(range(0, 60, 3))), 20 * HUGE)

    def test_great_nets(self):
        chance = random.Random(43)
        for _ in range(150):
            net = random_net(chance, chance.randint(2, 24), 60)
            case = random_case(chance, net, (0, 1, 7, 10 ** 30, HUGE, HUGE + 1, chance.randint(0, HUGE)))
            self.check(*case)
            self.check(*random_case(chance, net, (None, 3, chance.randint(0, HUGE), HUGE)))

    def test_endless_ways(self):
        self.assertEqual(greatest_flow(TOWN, OPEN, (0,), (2,), ()), (None, (0, 2), ()))
        self.assertEqual(greatest_flow(TOWN, OPEN, (0,), (), (2, 4)), (None, (0, 2), ()))
        self.assertEqual(greatest_flow(TOWN, (None,) + (0,) * 4, (0,), (), (0,)), (None, (0,), ()))
        self.assertEqual(greatest_flow(TOWN, (None,) + (0,) * 4, (0,), (1,), ()), (None, (0,), ()))
        # What goes along the road 0 ends there, so nothing goes on by the road 2.
        self.assertEqual(self.check(TOWN, (5, 0, None, 0, 0), (0,), (2,), (0,)), 5)
        self.assertEqual(self.check(TOWN, (5, 3, None, 4, None), (0,), (3,), ()), 8)

    def test_more_room_and_more_ends(self):
        chance = random.Random(44)
        for case in small_flow_cases()[::6]:
            net, room, feet, heads, ends = case
            value, _, _ = greatest_flow(*case)
            road = chance.randrange(len(room))
            if value is not None and room[road] is not None:
                wider = room[:road] + (room[road] + 2,) + room[road + 1:]
                self.assertIn(greatest_flow(net, wider, feet, heads, ends)[0], (value, value + 1, value + 2))
                more = greatest_flow(net, room, feet, heads, tuple(sorted({*ends, road})))[0]
                self.assertTrue(more is None or more >= value)

    def test_the_value_is_what_ends(self):
        for case in small_flow_cases()[::3]:
            net, _, feet, heads, ends = case
            value, flow, _ = greatest_flow(*case)
            if value is not None:
                away = sum([flow[road] for road, (foot, _) in enumerate(net[1]) if foot in heads])
                come = sum([flow[road] for road, (_, head) in enumerate(net[1]) if road in ends or head in heads])
                self.assertEqual(value, come - away)


class FlowError(unittest.TestCase):

    def check(self, value, error, room=COUNTS, feet=(0,), heads=(2,), ends=()):
        self.assertEqual(flow_error(TOWN, room, feet, heads, ends, value), error, value)

    def test_form(self):
        for value in KINDS:
            self.check(value, "form")
            if not isinstance(value, tuple):
                self.check((6, value, (0, 1, 3)), "form")
                self.check((6, (2, 4, 2, 0, 0), value), "form")
                self.check((None, value, ()), "form")
                self.check((None, (0, 2), value), "form")
            if value is not None and type(value) is not int:
                self.check((value, (2, 4, 2, 0, 0), (0, 1, 3)), "form")
        for value in ((6, (2, 4, 2, 0, 0)), (6, (2, 4, 2, 0, 0), (0, 1, 3), ()), [6, (2, 4, 2, 0, 0), (0, 1, 3)]):
            self.check(value, "form")

    def test_way(self):
        for way in ((), (0,), (2,), (2, 0), (0, 2, 4), (0, 4), (1,), (0, 3), (0, 1), (0, 2, 2), (-5, 2), (0, 5), (0, -3),
                    (0, 2.0), (False, 2), (0, None), ((0, 2),), ("0", "2")):
            self.check((None, way, ()), "way", OPEN)
        self.check((None, (0, 2), ()), None, OPEN)
        self.check((None, (0, 2), ()), "way")
        self.check((None, (0, 2), ()), "way", OPEN, feet=(1,))
        self.check((None, (0, 2), ()), "way", OPEN, heads=(3,))
        self.check((None, (0, 2), ()), "way", OPEN, heads=(2,), ends=(0,))
        self.check((None, (0, 2), ()), None, OPEN, heads=(), ends=(2, 4))
        self.check((None, (0,), ()), None, OPEN, ends=(0,))
        self.check((None, (0, 2, 4), ()), None, (None,) * 5, heads=(2, 3))
        self.check((None, (0, 2, 4), ()), "way", OPEN, heads=(2, 3))
        self.check((None, (0, 2, 4), ()), "way", (9, None, None, None, None), heads=(2, 3))
        self.check((None, (0, 2, -1), ()), "way", (None,) * 5, heads=(2, 3))
        self.check((None, (0, -2), ()), "way", (None,) * 5, heads=(3,))
        self.check((None, (0, 2, 4), ()), "way", (None,) * 5, heads=(2, 3), ends=(2,))
        for value in KINDS:
            if isinstance(value, tuple):
                self.check((None, value, ()), "way", OPEN)

    def test_cut_of_an_endless_way(self):
        for value in KINDS:
            if isinstance(value, tuple):
                self.check((None, (0, 2), value), None if value == () else "cut", OPEN)

    def test_road(self):
        for flow, road in (((), 0), ((2,), 1), ((2, 4, 2, 0), 4), ((2, 4, 2, 0, 0, 0), 5), ((2, 4, 2, 0, 0, None, None), 5),
                           ((-1, 4, 2, 0, 0), 0), ((2, 5, 2, 0, 0), 1), ((2, 4, 3, 0, 0), 2), ((6, 9, 9, 9), 0)):
            self.check((6, flow, (0, 1, 3)), ("road", road))
        for item in NO_INTEGERS + (-1, -10 ** 399, 10 ** 399):
            self.check((6, (2, 4, 2, 0, item), (0, 1, 3)), ("road", 4))
            self.check((6, (2, item, 2, 0, 0), (0, 1, 3)), ("road", 1))
        for item in NO_INTEGERS + (-1,):
            self.check((0, (item, 0, 0, 0, 0), (0,)), ("road", 0), OPEN)
        self.check((0, (10 ** 399, 0, 0, 0, 0), (0,)), ("place", 1), OPEN)

    def test_place(self):
        for flow, place in (((3, 4, 2, 0, 0), 1), ((2, 4, 1, 0, 0), 1), ((5, 4, 2, 3, 0), 3), ((2, 4, 2, 0, 1), 3)):
            self.check((6, flow, (0, 1, 3)), ("place", place))
        # In is a place as any other where it is not in feet.
        self.check((0, (1, 0, 1, 0, 0), (1,)), ("place", 0), feet=(1,))
        self.check((0, (1, 1, 1, 0, 0), (0, 3)), ("place", 0), feet=(3,), heads=(1, 2))
        self.check((2, (2, 0, 0, 0, 0), (0, 1, 3)), "cut", heads=(1, 2))
        self.check((2, (2, 0, 0, 0, 0), (0, 1, 3)), "value", ends=(0,))
        self.check((2, (2, 0, 2, 0, 0), (0, 1, 3)), ("place", 1), ends=(0,))

    def test_cut(self):
        for cut in ((), (1, 3), (0, 2), (0, 1, 2, 3), (1, 0), (0, 0), (0, 4), (-1, 0), (0, None), (0, True), (False,), ((0,),)):
            self.check((6, (2, 4, 2, 0, 0), cut), "cut")
        for value in KINDS:
            if isinstance(value, tuple) and repr(value) not in ("(0,)", "(0, 1)"):
                self.check((6, (2, 4, 2, 0, 0), value), "cut")
        self.check((6, (2, 4, 2, 0, 0), (0, 3)), "value")
        self.check((3, (0, 0, 0, 3, 0), (0, 1)), "cut", heads=(3,), feet=(0, 1, 2))

    def test_value(self):
        self.check((6, (2, 4, 2, 0, 0), (0, 1, 3)), None)
        for worth in (5, 7, 0, -6, 10 ** 399):
            self.check((worth, (2, 4, 2, 0, 0), (0, 1, 3)), "value")
        self.check((5, (1, 4, 1, 0, 0), (0, 1, 3)), "value")
        self.check((6, (2, 4, 2, 0, 0), (0, 1)), "value")
        self.check((9, (2, 4, 2, 0, 0), (0, 1)), "value")
        self.check((0, (0, 0, 0, 0, 0), (0,)), "value", OPEN)
        self.check((0, (0, 0, 0, 0, 0), (0, 1, 3)), "value", OPEN)
        # What comes back to feet is taken off.
        self.check((6, (3, 4, 2, 0, 0), (0, 1, 3)), None, feet=(0, 1))
        self.check((9, (3, 4, 2, 0, 0), (0, 1, 3)), "value", feet=(0, 1))
        self.check((9, (3, 4, 2, 0, 0), (0, 1, 3)), "value", feet=(0, 1), ends=(0,))

    def test_a_road_of_ends_leaves_a_cut_that_has_its_head(self):
        self.check((7, (5, 0, 2, 0, 0), (0, 1)), None, (5, 0, 2, 0, 0), feet=(0, 1), ends=(0,))
        self.check((2, (5, 0, 2, 0, 0), (0, 1)), "value", (5, 0, 2, 0, 0), feet=(0, 1), ends=(0,))
        self.check((5, (0, 0, 5, 0, 0), (0, 1)), "value", (None, 0, 5, 0, 0), feet=(0, 1), ends=(0,))
        self.check((5, (0, 0, 5, 0, 0), (0, 1)), None, (None, 0, 5, 0, 0), feet=(0, 1))

    def test_the_first_error_is_told(self):
        self.check((None, (2,), (0,)), "way", OPEN)
        self.check((5, (9, 4, 1, 0), (3,)), ("road", 0))
        self.check((5, (3, 4, 2, 0), (3,)), ("road", 4))
        self.check((5, (3, 4, 2, 0, 0), (3,)), ("place", 1))
        self.check((5, (2, 4, 2, 0, 0), (3,)), "cut")
        self.check((5, (2, 4, 2, 0, 0), (0, 3)), "value")

    def test_beside_a_judge_of_the_test(self):
        chance = random.Random(45)
        met = {}
        for case in small_flow_cases()[::2]:
            value = greatest_flow(*case)
            for _ in range(10):
                bad = spoilt(chance, value)
                if chance.random() < 0.4:
                    bad = spoilt(chance, bad)
                wanted = own_error(*case, bad)
                self.assertEqual(flow_error(*case, bad), wanted, (case, bad))
                word = wanted[0] if isinstance(wanted, tuple) else wanted
                met[word] = met.get(word, 0) + 1
        self.assertEqual(set(met), {None, "way", "cut", "road", "place", "value"})
        self.assertGreater(min(met.values()), 30)


class Calls(unittest.TestCase):

    def test_by_place_by_name_and_again(self):
        names = ("net", "room", "feet", "heads", "ends")
        first = {}
        cases = [(TOWN, COUNTS, (0,), (2,), ()), (TOWN, OPEN, (0,), (2,), ()), (TOWN, COUNTS, (0,), (), (2, 3)),
                 (chain(23, 2), (10 ** 30, None) * 23, (0,), (23,), ()), (chain(23, 2), (HUGE, 5) * 23, (0, 5), (7, 23), (9,))]
        for case in cases * 2:
            told = check_calls(self, greatest_flow, names, case)
            self.assertEqual(first.setdefault(case, told), told)
            for value in (greatest_flow(*case), (6, (2, 4, 2, 0, 0), (0, 1, 3)), [1], (None, [0], ()), (3, ([], 1), ())):
                told = check_calls(self, flow_error, names + ("value",), case + (value,))
                self.assertEqual(first.setdefault((case, repr(value)), told), told)

if __name__ == "__main__":
    unittest.main()
