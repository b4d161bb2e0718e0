"""What several tests need: values of all kinds, ways to call, small nets, and searches through all there is."""

import copy
import random
from functools import cache
from itertools import combinations, product

from suretrips.errors import TripError
from suretrips.explaining import tally_of
from suretrips.nets import trip_at, trip_count

TOP = 10 ** 30


def nested(depth):
    value = ()
    for _ in range(depth):
        value = (value,)
    return value


KINDS = (
    None, True, False, 0, 1, -1, 2, 7, 10 ** 30, 10 ** 399, -10 ** 399,
    "", "a", "0", "5", "5: 0>1", "(0, 1)", " ", "\n", "0" * 20000,
    (), (0,), (True,), (None,), (0, 1), (0, None), (True, False), (0, 1, 2), ((),), ((), ()), ("0", "1"),
    [], [0], [0, 1], [(0, 1)], [[0, 1]], {}, {0: 1}, {"many": 2, "roads": ((0, 1),)}, {(0, 1): []},
    nested(20), (0,) * 61, (0,) * 4000, ((0, 1),) * 201, [None] * 4000,
)

# Where an integer has to stand none of these may be taken for one.
NO_INTEGERS = tuple([value for value in KINDS if type(value) is not int])


def answer(function, *values, **named):
    """What a call returns or raises, as a tuple that tells 1 from True."""
    try:
        return ("returns", repr(function(*values, **named)))
    except TripError as error:
        return ("raises", type(error).__name__, repr(vars(error)))


def raised(name, **fields):
    return ("raises", name, repr(fields))


def check_calls(case, function, names, values):
    """The call tells the same by place, by name and when asked again, and changes nothing that is handed in."""
    handed = copy.deepcopy(values)
    first = answer(function, *handed)
    named = dict(zip(names, handed))
    case.assertEqual(answer(function, **named), first)
    case.assertEqual(answer(function, **dict(reversed(named.items()))), first)
    case.assertEqual(answer(function, *handed), first)
    case.assertEqual(repr(handed), repr(values))
    case.assertEqual(answer(function, *values), first)
    return first


def road_pairs(many):
    return [(foot, head) for head in range(many) for foot in range(head)]


def small_nets(many, most):
    """All nets of so many places and at most so many roads."""
    return [(many, roads) for length in range(1, most + 1) for roads in product(road_pairs(many), repeat=length)]


def some_nets():
    """A good many small nets: with double roads, without trips, with places that no road comes to."""
    nets = small_nets(2, 3) + small_nets(3, 3) + small_nets(4, 2)
    return nets + small_nets(4, 4)[100::7] + small_nets(5, 4)[1000::53]


def random_net(chance, many, most):
    """A net of many places with up to so many roads, each a pair drawn by chance."""
    pairs = road_pairs(many)
    return (many, tuple([chance.choice(pairs) for _ in range(chance.randint(1, most))]))


def chain(stages, wide):
    """A net of stages, each of so many roads from one place to the next one."""
    return (stages + 1, tuple([(place, place + 1) for place in range(stages) for _ in range(wide)]))


def all_trips(net):
    """All trips, by trying on from each beginning; ascending."""
    many, roads = net
    begun, done = [((), 0)], []
    while begun:
        trip, end = begun.pop()
        if end == many - 1:
            done.append(trip)
        else:
            begun.extend([(trip + (road,), head) for road, (foot, head) in enumerate(roads) if foot == end])
    return sorted(done)


def reach(net):
    """The pairs of places of which one leads to the other, along none or more roads."""
    many, roads = net
    found = {(place, place) for place in range(many)}
    for _ in range(many):
        found |= {(start, head) for start, end in found for foot, head in roads if foot == end}
    return found


def tallies_within(net, boxes):
    """All tallies each of whose counts is from low to high, for boxes of (low, high)."""
    many, roads = net
    found = [{}]
    for place in range(many - 1):
        going = [road for road, (foot, _) in enumerate(roads) if foot == place]
        further = []
        for counts in found:
            come = sum([count for road, count in counts.items() if roads[road][1] == place])
            for parts in product(*[range(boxes[road][0], boxes[road][1] + 1) for road in going]):
                if place == 0 or sum(parts) == come:
                    further.append({**counts, **dict(zip(going, parts))})
        found = further
    return [tuple([counts[road] for road in range(len(roads))]) for counts in found]


def all_explanations(net, tally):
    """All explanations, by trying for each trip each number of times; ascending."""
    begun = [((), tally)]
    for trip in all_trips(net):
        further = []
        for told, left in begun:
            for times in range(min([left[road] for road in trip]) + 1):
                rest = tuple([count - times * (road in trip) for road, count in enumerate(left)])
                further.append((told + (((trip, times),) if times else ()), rest))
        begun = further
    return sorted([told for told, left in begun if not any(left)])


def wide(rows, columns):
    """Three places with so many roads to the middle one, and so many from there."""
    return (3, ((0, 1),) * rows + ((1, 2),) * columns)


def random_tally(chance, net, trips, most):
    """The tally of so many trips drawn by chance, each up to so many times."""
    numbers = [chance.randrange(trip_count(net)) for _ in range(trips)]
    return tally_of(net, [(trip_at(net, number), chance.randint(1, most)) for number in numbers])


@cache
def small_tallies():
    """Small nets and all their tallies of small counts."""
    cases = []
    for net in small_nets(3, 3) + small_nets(3, 4)[60::4] + small_nets(4, 4)[300::11]:
        cases.extend([(net, tally) for tally in tallies_within(net, [(0, 2)] * len(net[1]))])
    chance = random.Random(3)
    for _ in range(150):
        net = random_net(chance, 5, 7)
        if 0 < trip_count(net) < 9:
            cases.append((net, random_tally(chance, net, chance.randint(1, 4), 2)))
    return cases


@cache
def great_tallies():
    """Great nets with tallies of great counts."""
    chance = random.Random(9)
    nets = [chain(23, 2), wide(30, 30), wide(1, 59), wide(59, 1), (2, ((0, 1),) * 60), chain(3, 20), chain(12, 5)]
    nets.append((24, tuple([(place, place + 1) for place in range(23)] + [(place, place + 3) for place in range(20)])))
    cases = [(net, (0,) * len(net[1])) for net in nets]
    for net in nets:
        cases.extend([(net, random_tally(chance, net, pairs, TOP // 200)) for pairs in (1, 2, 50, 200)])
    cases.append((nets[0], (TOP,) * 46))
    cases.append((nets[1], (TOP,) * 60))
    return cases


def explained_often(seed, wanted):
    """So many triples of a small net, a tally and its explanations, of which there are several, but not many."""
    chance = random.Random(seed)
    found = []
    while len(found) < wanted:
        many = chance.randint(3, 5)
        net = (many, tuple([chance.choice(road_pairs(many)) for _ in range(chance.randint(4, 8))]))
        if 2 < trip_count(net) < 10:
            tally = random_tally(chance, net, chance.randint(2, 5), 3)
            told = all_explanations(net, tally)
            if 1 < len(told) < 60:
                found.append((net, tally, told))
    return found


@cache
def some_explained():
    """Triples of a small net, a tally and all its explanations: of many tallies just one, of others several."""
    few = [(net, tally, all_explanations(net, tally)) for net, tally in small_tallies()[::12]]
    return few + explained_often(21, 120)


def shuffled(chance, net, tally, most):
    """An explanation of tally of trips drawn by chance, of some most pairs or more."""
    many, roads = net
    left, told = list(tally), {}
    while any(left):
        trip, place = (), 0
        while place < many - 1:
            trip += (chance.choice([road for road, (foot, _) in enumerate(roads) if foot == place and left[road]]),)
            place = roads[trip[-1]][1]
        fits = min([left[road] for road in trip])
        times = fits if len(told) > most else chance.randint(1, fits)
        for road in trip:
            left[road] -= times
        told[trip] = told.get(trip, 0) + times
    return tuple(sorted(told.items()))


def all_stretches(net):
    """All stretches, by leading on from each road; ascending."""
    _, roads = net
    begun, done = [(road,) for road in range(len(roads))], []
    while begun:
        stretch = begun.pop()
        done.append(stretch)
        begun.extend([stretch + (road,) for road, (foot, _) in enumerate(roads) if foot == roads[stretch[-1]][1]])
    return sorted(done)


def is_along(stretch, trip):
    """Whether the roads of stretch stand in trip one behind another."""
    return any([trip[at:at + len(stretch)] == stretch for at in range(len(trip))])


def subsets(items):
    """All ascending tuples of some of items, which ascend."""
    return [some for length in range(len(items) + 1) for some in combinations(items, length)]


def random_holes(chance, roads):
    """Small holes of so many roads, drawn by chance."""
    holes = []
    for _ in range(roads):
        low = chance.choice((0, 0, 1, 2))
        holes.append((low, chance.choice((low, low, low + 1, low + 2, None))))
    return tuple(holes)


def told_together(holes):
    """All lows and all highs that are told, together."""
    return sum([low + (high or 0) for low, high in holes])


def search_within(net, holes):
    """All tallies within holes up to counts that are great enough to tell what has no bound."""
    # What is more than all that is told goes round on roads without bounds alone.
    most = told_together(holes) + 1
    return tallies_within(net, [(low, most if high is None else high) for low, high in holes])


@cache
def small_holes():
    """Small nets with small holes: all there are of the smallest, then many by chance."""
    hole = ((0, 0), (0, 1), (1, 1), (1, 2), (0, None), (1, None))
    cases = [(net, holes) for net in small_nets(3, 2) for holes in product(hole, repeat=len(net[1]))]
    chance = random.Random(11)
    for _ in range(700):
        net = random_net(chance, chance.randint(2, 5), 6)
        holes = random_holes(chance, len(net[1]))
        if told_together(holes) < 13 and sum([high is None for _, high in holes]) < 4:
            cases.append((net, holes))
    return cases


def all_questions(net):
    """All questions of a small net."""
    roads = range(len(net[1]))
    found = [("along", stretch) for stretch in all_stretches(net)]
    found.extend([("touch", marks) for marks in subsets(roads) if marks])
    return found + [("both", one, other) for one in roads for other in roads]


def random_question(chance, net):
    """A question of a net that has trips, drawn by chance."""
    roads = len(net[1])
    trip = trip_at(net, chance.randrange(trip_count(net)))
    word = chance.choice(("along", "touch", "both", "both"))
    if word == "along":
        begin = chance.randrange(len(trip))
        return (word, trip[begin:chance.randint(begin + 1, len(trip))])
    if word == "touch":
        return (word, tuple(sorted(chance.sample(range(roads), chance.randint(1, min(6, roads))))))
    return (word, chance.choice(trip + (chance.randrange(roads),)), chance.choice(trip))


def is_taken(question, trip):
    """Whether question takes trip, as the document tells."""
    if question[0] == "along":
        return is_along(question[1], trip)
    if question[0] == "touch":
        return not set(question[1]).isdisjoint(trip)
    return {question[1], question[2]} <= set(trip)


def numbers_of(question, right):
    """How many trips question takes in each of the explanations."""
    return [sum([times for trip, times in told if is_taken(question, trip)]) for told in right]


@cache
def asked_often():
    """Quadruples of a small net, a tally, all its explanations, and some questions of the net."""
    chance = random.Random(71)
    found = []
    for net, tally, right in some_explained():
        questions = all_questions(net)
        few = chance.sample(questions, min(len(questions), 14))
        lively = [question for question in questions if len(set(numbers_of(question, right[:8]))) > 1]
        found.append((net, tally, right, few + chance.sample(lively, min(len(lively), 8))))
    return found


@cache
def asked_greatly():
    """Triples of a great net, a tally of great counts, and some questions of the net."""
    chance = random.Random(72)
    cases = []
    for net, tally in great_tallies():
        roads = len(net[1])
        questions = [random_question(chance, net) for _ in range(8)]
        questions.extend([("touch", tuple(range(roads))), ("touch", (0,)), ("both", 0, roads - 1), ("both", roads - 1, 0),
                          ("both", 0, 0), ("along", (roads - 1,))])
        cases.append((net, tally, questions))
    return cases
