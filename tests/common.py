"""What several tests need: values of all kinds, ways to call, small nets, and searches through all there is."""

import copy
from itertools import product

from suretrips.errors import TripError


def nested(depth):
    value = ()
    for _ in range(depth):
        value = (value,)
    return value


KINDS = (
    None, True, False, 0, 1, -1, 2, 7, 10 ** 30, 10 ** 399, -10 ** 399,
    "", "a", "0", "5", "5: 0>1", "(0, 1)", " ", "\n", "0" * 20000,
    (), (0,), (True,), (None,), (0, 1), (0, None), (True, False), (0, 1, 2), ((),), ((), ()), ("0", "1"),
    [], [0], [0, 1], [(0, 1)], [[0, 1]], {}, {0: 1}, {"many": 2, "roads": ((0, 1),)}, {(0, 1): []},
    nested(20), (0,) * 61, (0,) * 4000, ((0, 1),) * 201, [None] * 4000,
)

# Where an integer has to stand none of these may be taken for one.
NO_INTEGERS = tuple([value for value in KINDS if type(value) is not int])


def answer(function, *values, **named):
    """What a call returns or raises, as a tuple that tells 1 from True."""
    try:
        return ("returns", repr(function(*values, **named)))
    except TripError as error:
        return ("raises", type(error).__name__, repr(vars(error)))


def raised(name, **fields):
    return ("raises", name, repr(fields))


def check_calls(case, function, names, values):
    """The call tells the same by place, by name and when asked again, and changes nothing that is handed in."""
    handed = copy.deepcopy(values)
    first = answer(function, *handed)
    named = dict(zip(names, handed))
    case.assertEqual(answer(function, **named), first)
    case.assertEqual(answer(function, **dict(reversed(named.items()))), first)
    case.assertEqual(answer(function, *handed), first)
    case.assertEqual(repr(handed), repr(values))
    case.assertEqual(answer(function, *values), first)
    return first


def road_pairs(many):
    return [(foot, head) for head in range(many) for foot in range(head)]


def small_nets(many, most):
    """All nets of so many places and at most so many roads."""
    return [(many, roads) for length in range(1, most + 1) for roads in product(road_pairs(many), repeat=length)]


def some_nets():
    """A good many small nets: with double roads, without trips, with places that no road comes to."""
    nets = small_nets(2, 3) + small_nets(3, 3) + small_nets(4, 2)
    return nets + small_nets(4, 4)[100::7] + small_nets(5, 4)[1000::53]


def random_net(chance, many, most):
    """A net of many places with up to so many roads, each a pair drawn by chance."""
    pairs = road_pairs(many)
    return (many, tuple([chance.choice(pairs) for _ in range(chance.randint(1, most))]))


def chain(stages, wide):
    """A net of stages, each of so many roads from one place to the next one."""
    return (stages + 1, tuple([(place, place + 1) for place in range(stages) for _ in range(wide)]))


def all_trips(net):
    """All trips, by trying on from each beginning; ascending."""
    many, roads = net
    begun, done = [((), 0)], []
    while begun:
        trip, end = begun.pop()
        if end == many - 1:
            done.append(trip)
        else:
            begun.extend([(trip + (road,), head) for road, (foot, head) in enumerate(roads) if foot == end])
    return sorted(done)


def reach(net):
    """The pairs of places of which one leads to the other, along none or more roads."""
    many, roads = net
    found = {(place, place) for place in range(many)}
    for _ in range(many):
        found |= {(start, head) for start, end in found for foot, head in roads if foot == end}
    return found


def tallies_within(net, boxes):
    """All tallies each of whose counts is from low to high, for boxes of (low, high)."""
    many, roads = net
    found = [{}]
    for place in range(many - 1):
        going = [road for road, (foot, _) in enumerate(roads) if foot == place]
        further = []
        for counts in found:
            come = sum([count for road, count in counts.items() if roads[road][1] == place])
            for parts in product(*[range(boxes[road][0], boxes[road][1] + 1) for road in going]):
                if place == 0 or sum(parts) == come:
                    further.append({**counts, **dict(zip(going, parts))})
        found = further
    return [tuple([counts[road] for road in range(len(roads))]) for counts in found]


def all_explanations(net, tally):
    """All explanations, by trying for each trip each number of times; ascending."""
    begun = [((), tally)]
    for trip in all_trips(net):
        further = []
        for told, left in begun:
            for times in range(min([left[road] for road in trip]) + 1):
                rest = tuple([count - times * (road in trip) for road, count in enumerate(left)])
                further.append((told + (((trip, times),) if times else ()), rest))
        begun = further
    return sorted([told for told, left in begun if not any(left)])
