"""What several tests need: values of all kinds, ways to call, small nets, and searches through all there is."""

import copy
import random
import re
from functools import cache
from itertools import combinations, product

from suretrips.errors import TripError
from suretrips.explaining import tally_of
from suretrips.nets import trip_at, trip_count

TOP = 10 ** 30


def nested(depth):
    value = ()
    for _ in range(depth):
        value = (value,)
    return value


KINDS = (
    None, True, False, 0, 1, -1, 2, 7, 10 ** 30, 10 ** 399, -10 ** 399,
    "", "a", "0", "5", "5: 0>1", "(0, 1)", " ", "\n", "0" * 20000,
    (), (0,), (True,), (None,), (0, 1), (0, None), (True, False), (0, 1, 2), ((),), ((), ()), ("0", "1"),
    [], [0], [0, 1], [(0, 1)], [[0, 1]], {}, {0: 1}, {"many": 2, "roads": ((0, 1),)}, {(0, 1): []},
    nested(20), (0,) * 61, (0,) * 4000, ((0, 1),) * 201, [None] * 4000,
)

# Where an integer has to stand none of these may be taken for one.
NO_INTEGERS = tuple([value for value in KINDS if type(value) is not int])


def answer(function, *values, **named):
    """What a call returns or raises, as a tuple that tells 1 from True."""
    try:
        return ("returns", repr(function(*values, **named)))
    except TripError as error:
        return ("raises", type(error).__name__, repr(vars(error)))


def raised(name, **fields):
    return ("raises", name, repr(fields))


def check_calls(case, function, names, values):
    """The call tells the same by place, by name and when asked again, and changes nothing that is handed in."""
    handed = copy.deepcopy(values)
    first = answer(function, *handed)
    named = dict(zip(names, handed))
    case.assertEqual(answer(function, **named), first)
    case.assertEqual(answer(function, **dict(reversed(named.items()))), first)
    case.assertEqual(answer(function, *handed), first)
    case.assertEqual(repr(handed), repr(values))
    case.assertEqual(answer(function, *values), first)
    return first


def road_pairs(many):
    return [(foot, head) for head in range(many) for foot in range(head)]


def small_nets(many, most):
    """All nets of so many places and at most so many roads."""
    return [(many, roads) for length in range(1, most + 1) for roads in product(road_pairs(many), repeat=length)]


def some_nets():
    """A good many small nets: with double roads, without trips, with places that no road comes to."""
    nets = small_nets(2, 3) + small_nets(3, 3) + small_nets(4, 2)
    return nets + small_nets(4, 4)[100::7] + small_nets(5, 4)[1000::53]


def random_net(chance, many, most):
    """A net of many places with up to so many roads, each a pair drawn by chance."""
    pairs = road_pairs(many)
    return (many, tuple([chance.choice(pairs) for _ in range(chance.randint(1, most))]))


def chain(stages, wide):
    """A net of stages, each of so many roads from one place to the next one."""
    return (stages + 1, tuple([(place, place + 1) for place in range(stages) for _ in range(wide)]))


def all_trips(net):
    """All trips, by trying on from each beginning; ascending."""
    many, roads = net
    begun, done = [((), 0)], []
    while begun:
        trip, end = begun.pop()
        if end == many - 1:
            done.append(trip)
        else:
            begun.extend([(trip + (road,), head) for road, (foot, head) in enumerate(roads) if foot == end])
    return sorted(done)


def reach(net):
    """The pairs of places of which one leads to the other, along none or more roads."""
    many, roads = net
    found = {(place, place) for place in range(many)}
    for _ in range(many):
        found |= {(start, head) for start, end in found for foot, head in roads if foot == end}
    return found


def tallies_within(net, boxes):
    """All tallies each of whose counts is from low to high, for boxes of (low, high)."""
    many, roads = net
    found = [{}]
    for place in range(many - 1):
        going = [road for road, (foot, _) in enumerate(roads) if foot == place]
        further = []
        for counts in found:
            come = sum([count for road, count in counts.items() if roads[road][1] == place])
            for parts in product(*[range(boxes[road][0], boxes[road][1] + 1) for road in going]):
                if place == 0 or sum(parts) == come:
                    further.append({**counts, **dict(zip(going, parts))})
        found = further
    return [tuple([counts[road] for road in range(len(roads))]) for counts in found]


def all_explanations(net, tally):
    """All explanations, by trying for each trip each number of times; ascending."""
    begun = [((), tally)]
    for trip in all_trips(net):
        further = []
        for told, left in begun:
            for times in range(min([left[road] for road in trip]) + 1):
                rest = tuple([count - times * (road in trip) for road, count in enumerate(left)])
                further.append((told + (((trip, times),) if times else ()), rest))
        begun = further
    return sorted([told for told, left in begun if not any(left)])


def wide(rows, columns):
    """Three places with so many roads to the middle one, and so many from there."""
    return (3, ((0, 1),) * rows + ((1, 2),) * columns)


def random_tally(chance, net, trips, most):
    """The tally of so many trips drawn by chance, each up to so many times."""
    numbers = [chance.randrange(trip_count(net)) for _ in range(trips)]
    return tally_of(net, [(trip_at(net, number), chance.randint(1, most)) for number in numbers])


@cache
def small_tallies():
    """Small nets and all their tallies of small counts."""
    cases = []
    for net in small_nets(3, 3) + small_nets(3, 4)[60::4] + small_nets(4, 4)[300::11]:
        cases.extend([(net, tally) for tally in tallies_within(net, [(0, 2)] * len(net[1]))])
    chance = random.Random(3)
    for _ in range(150):
        net = random_net(chance, 5, 7)
        if 0 < trip_count(net) < 9:
            cases.append((net, random_tally(chance, net, chance.randint(1, 4), 2)))
    return cases


@cache
def great_tallies():
    """Great nets with tallies of great counts."""
    chance = random.Random(9)
    nets = [chain(23, 2), wide(30, 30), wide(1, 59), wide(59, 1), (2, ((0, 1),) * 60), chain(3, 20), chain(12, 5)]
    nets.append((24, tuple([(place, place + 1) for place in range(23)] + [(place, place + 3) for place in range(20)])))
    cases = [(net, (0,) * len(net[1])) for net in nets]
    for net in nets:
        cases.extend([(net, random_tally(chance, net, pairs, TOP // 200)) for pairs in (1, 2, 50, 200)])
    cases.append((nets[0], (TOP,) * 46))
    cases.append((nets[1], (TOP,) * 60))
    return cases


def explained_often(seed, wanted):
    """So many triples of a small net, a tally and its explanations, of which there are several, but not many."""
    chance = random.Random(seed)
    found = []
    while len(found) < wanted:
        many = chance.randint(3, 5)
        net = (many, tuple([chance.choice(road_pairs(many)) for _ in range(chance.randint(4, 8))]))
        if 2 < trip_count(net) < 10:
            tally = random_tally(chance, net, chance.randint(2, 5), 3)
            told = all_explanations(net, tally)
            if 1 < len(told) < 60:
                found.append((net, tally, told))
    return found


@cache
def some_explained():
    """Triples of a small net, a tally and all its explanations: of many tallies just one, of others several."""
    few = [(net, tally, all_explanations(net, tally)) for net, tally in small_tallies()[::12]]
    return few + explained_often(21, 120)


def shuffled(chance, net, tally, most):
    """An explanation of tally of trips drawn by chance, of some most pairs or more."""
    many, roads = net
    left, told = list(tally), {}
    while any(left):
        trip, place = (), 0
        while place < many - 1:
            trip += (chance.choice([road for road, (foot, _) in enumerate(roads) if foot == place and left[road]]),)
            place = roads[trip[-1]][1]
        fits = min([left[road] for road in trip])
        times = fits if len(told) > most else chance.randint(1, fits)
        for road in trip:
            left[road] -= times
        told[trip] = told.get(trip, 0) + times
    return tuple(sorted(told.items()))


def all_stretches(net):
    """All stretches, by leading on from each road; ascending."""
    _, roads = net
    begun, done = [(road,) for road in range(len(roads))], []
    while begun:
        stretch = begun.pop()
        done.append(stretch)
        begun.extend([stretch + (road,) for road, (foot, _) in enumerate(roads) if foot == roads[stretch[-1]][1]])
    return sorted(done)


def is_along(stretch, trip):
    """Whether the roads of stretch stand in trip one behind another."""
    return any([trip[at:at + len(stretch)] == stretch for at in range(len(trip))])


def subsets(items):
    """All ascending tuples of some of items, which ascend."""
    return [some for length in range(len(items) + 1) for some in combinations(items, length)]


def random_holes(chance, roads):
    """Small holes of so many roads, drawn by chance."""
    holes = []
    for _ in range(roads):
        low = chance.choice((0, 0, 1, 2))
        holes.append((low, chance.choice((low, low, low + 1, low + 2, None))))
    return tuple(holes)


def told_together(holes):
    """All lows and all highs that are told, together."""
    return sum([low + (high or 0) for low, high in holes])


def search_within(net, holes):
    """All tallies within holes up to counts that are great enough to tell what has no bound."""
    # What is more than all that is told goes round on roads without bounds alone.
    most = told_together(holes) + 1
    return tallies_within(net, [(low, most if high is None else high) for low, high in holes])


@cache
def small_holes():
    """Small nets with small holes: all there are of the smallest, then many by chance."""
    hole = ((0, 0), (0, 1), (1, 1), (1, 2), (0, None), (1, None))
    cases = [(net, holes) for net in small_nets(3, 2) for holes in product(hole, repeat=len(net[1]))]
    chance = random.Random(11)
    for _ in range(700):
        net = random_net(chance, chance.randint(2, 5), 6)
        holes = random_holes(chance, len(net[1]))
        if told_together(holes) < 13 and sum([high is None for _, high in holes]) < 4:
            cases.append((net, holes))
    return cases


def all_questions(net):
    """All questions of a small net."""
    roads = range(len(net[1]))
    found = [("along", stretch) for stretch in all_stretches(net)]
    found.extend([("touch", marks) for marks in subsets(roads) if marks])
    return found + [("both", one, other) for one in roads for other in roads]


def random_question(chance, net):
    """A question of a net that has trips, drawn by chance."""
    roads = len(net[1])
    trip = trip_at(net, chance.randrange(trip_count(net)))
    word = chance.choice(("along", "touch", "both", "both"))
    if word == "along":
        begin = chance.randrange(len(trip))
        return (word, trip[begin:chance.randint(begin + 1, len(trip))])
    if word == "touch":
        return (word, tuple(sorted(chance.sample(range(roads), chance.randint(1, min(6, roads))))))
    return (word, chance.choice(trip + (chance.randrange(roads),)), chance.choice(trip))


def is_taken(question, trip):
    """Whether question takes trip, as the document tells."""
    if question[0] == "along":
        return is_along(question[1], trip)
    if question[0] == "touch":
        return not set(question[1]).isdisjoint(trip)
    return {question[1], question[2]} <= set(trip)


def numbers_of(question, right):
    """How many trips question takes in each of the explanations."""
    return [sum([times for trip, times in told if is_taken(question, trip)]) for told in right]


@cache
def asked_often():
    """Quadruples of a small net, a tally, all its explanations, and some questions of the net."""
    chance = random.Random(71)
    found = []
    for net, tally, right in some_explained():
        questions = all_questions(net)
        few = chance.sample(questions, min(len(questions), 14))
        lively = [question for question in questions if len(set(numbers_of(question, right[:8]))) > 1]
        found.append((net, tally, right, few + chance.sample(lively, min(len(lively), 8))))
    return found


@cache
def asked_greatly():
    """Triples of a great net, a tally of great counts, and some questions of the net."""
    chance = random.Random(72)
    cases = []
    for net, tally in great_tallies():
        roads = len(net[1])
        questions = [random_question(chance, net) for _ in range(8)]
        questions.extend([("touch", tuple(range(roads))), ("touch", (0,)), ("both", 0, roads - 1), ("both", roads - 1, 0),
                          ("both", 0, 0), ("along", (roads - 1,))])
        cases.append((net, tally, questions))
    return cases


TOKEN = re.compile(r"(?P<blank>[ \n]+)|(?P<word>[a-z][a-z0-9]*)|(?P<number>[0-9]+)|(?P<sign>[;:>?]|\.\.)")


def tokens_told(text):
    """The tokens of text up to the first fault, and the place of this fault, None if there is none."""
    found, at = [], 0
    while at < len(text):
        match = TOKEN.match(text, at)
        if not match:
            return found, at
        sort, part = match.lastgroup, match.group()
        if sort == "word" and len(part) > 8 and part != "followers":
            return found, at
        if sort == "number" and (len(part) > 31 or (part[0] == "0" and part != "0")):
            return found, at
        if sort != "blank":
            found.append((sort, part, at))
        at = match.end()
    return found, None


NAMES = tuple([letter + figure for letter in "abcdefghijklmnopqrstuvwxyz" for figure in ("", "0", "1234567", "x9")])
NAME_FORM = "[a-z][a-z0-9]*"
WORDS = ("along", "ask", "both", "follow", "followers", "in", "known", "least", "most", "not", "out", "places", "road",
         "say", "sure", "touch")


def random_saying(chance, net, most):
    """A saying about a net that has trips, with numbers about as great as most, drawn by chance."""
    word = chance.choice(("least", "most", "follow"))
    if word == "follow":
        saying = (word, chance.randrange(len(net[1])), chance.randrange(len(net[1])))
    else:
        saying = (word, chance.choice((0, 1, most, chance.randint(0, most))), random_question(chance, net))
    for _ in range(chance.choice((0, 0, 1, 2, 8))):
        saying = ("not", saying)
    return saying


def random_ask(chance, net, most):
    """What is asked of a net that has trips, drawn by chance."""
    word = chance.choice(("least", "most", "followers", "sure", "say", "say"))
    if word == "sure":
        return (word,)
    if word == "followers":
        return (word, chance.randrange(len(net[1])))
    return (word, random_saying(chance, net, most) if word == "say" else random_question(chance, net))


def random_book(chance, many, most, asks):
    """A book of a net with trips, of many places, most roads and so many asks at the most, drawn by chance."""
    net = random_net(chance, many, most)
    while trip_count(net) == 0:
        net = random_net(chance, many, most)
    names = chance.sample(NAMES, many + len(net[1]))
    highs = [0, 1, 7, 10 ** 28, chance.randint(0, 10 ** 28)]
    holes = []
    for _ in net[1]:
        low, high = sorted([chance.choice(highs), chance.choice(highs)])
        holes.append((low, chance.choice((None, low, high))))
    known = [(trip_at(net, chance.randrange(trip_count(net))), chance.choice((1, 5, TOP))) for _ in range(chance.randint(0, 3))]
    told = tuple([random_ask(chance, net, chance.choice((3, TOP))) for _ in range(chance.randint(0, asks))])
    return (tuple(names[:many]), tuple(names[many:]), net, tuple(holes), tuple(known), told)


class Fault(Exception):
    """What the reader of the tests finds wrong with a text."""


class TextReader:
    """Reads books as the document tells it, from all tokens at once."""

    def __init__(self, text):
        found, fault = tokens_told(text)
        self.row = found + [("end", None, len(text) if fault is None else fault)]
        self.at = 0

    def fail(self, name, **fields):
        raise Fault(raised(name, **fields))

    def take(self, form):
        sort, part, place = self.row[self.at]
        fits = sort != "end" and re.fullmatch(form, part) and not (form == NAME_FORM and part in WORDS)
        if not fits:
            self.fail("BadText", place=place)
        self.at += 1
        return part

    def comes(self, form):
        sort, part, _ = self.row[self.at]
        return sort != "end" and re.fullmatch(form, part) and not (form == NAME_FORM and part in WORDS)

    def number(self, limit):
        number = int(self.take("[0-9]+"))
        if number > limit:
            self.fail("TooMany", limit=limit)
        return number

    def one(self, names):
        name = self.take(NAME_FORM)
        if name not in names:
            self.fail("NoName", given=name)
        return names.index(name)

    def several(self, names):
        found = [self.one(names)]
        while self.comes(NAME_FORM):
            found.append(self.one(names))
        return tuple(found)

    def fresh(self, names, taken, limit):
        name = self.take(NAME_FORM)
        if name in taken:
            self.fail("Taken", given=name)
        if len(names) + 1 > limit:
            self.fail("TooMany", limit=limit)
        names.append(name)

    def end_of(self, places, barred):
        place = self.one(places)
        if place == barred:
            self.fail("BadText", place=self.row[self.at - 1][2])
        return place

    def hole(self):
        if self.comes(r"\?"):
            self.take(r"\?")
            return (0, None)
        low = high = self.number(10 ** 28)
        if self.comes(r"\.\."):
            self.take(r"\.\.")
            high = self.number(10 ** 28) if self.comes("[0-9]+") else None
        return (low, high)

    def question(self, names):
        word = self.take("along|touch|both")
        if word == "both":
            return (word, self.one(names), self.one(names))
        roads = self.several(names)
        return (word, roads if word == "along" else tuple(sorted(roads)))

    def saying(self, names, nots):
        if self.comes("not"):
            self.take("not")
            if nots == 8:
                self.fail("TooMany", limit=8)
            return ("not", self.saying(names, nots + 1))
        word = self.take("least|most|follow")
        if word == "follow":
            return (word, self.one(names), self.one(names))
        return (word, self.number(TOP), self.question(names))

    def ask(self, names):
        word = self.take("least|most|followers|sure")
        if word == "sure":
            return (word,)
        return (word, self.one(names) if word == "followers" else self.question(names))


def ways_between(roads, start, end):
    """All ways from start to end that come to no place twice, as tuples of roads."""
    begun, done = [((), start, {start})], []
    while begun:
        way, place, been = begun.pop()
        if place == end:
            done.append(way)
        else:
            begun.extend([(way + (road,), head, been | {head}) for road, (foot, head) in enumerate(roads)
                          if foot == place and head not in been])
    return done


def is_question(net, question):
    """Whether question, whose roads are roads of net, is a question of it."""
    if question[0] == "along":
        return all([net[1][one][1] == net[1][other][0] for one, other in zip(question[1], question[1][1:])])
    return question[0] == "both" or len(set(question[1])) == len(question[1])


def asked_question(ask):
    """The question within ask, None if there is none."""
    while ask[0] in ("say", "not"):
        ask = ask[1]
    return ask[-1] if ask[0] in ("least", "most") else None


def book_of(text):
    """The book that text tells; raises Fault, with what read_book has to raise."""
    row = TextReader(text)
    places, names, roads, holes, known, asks = [], [], [], [], [], []
    row.take("places")
    row.fresh(places, places, 24)
    row.fresh(places, places, 24)
    while row.comes(NAME_FORM):
        row.fresh(places, places, 24)
    row.take(";")
    row.take("in")
    first = row.one(places)
    row.take(";")
    row.take("out")
    last = row.one(places)
    if first == last:
        row.fail("Taken", given=places[last])
    row.take(";")
    while not roads or row.comes("road"):
        row.take("road")
        row.fresh(names, places + names, 60)
        row.take(":")
        foot = row.end_of(places, last)
        row.take(">")
        head = row.end_of(places, first)
        hole = row.hole()
        row.take(";")
        if hole[1] is not None and hole[1] < hole[0]:
            row.fail("Unfit")
        rings = sorted([(len(way), way) for way in ways_between(roads, head, foot)])
        if rings:
            stops = [head] + [roads[road][1] for road in rings[0][1]]
            row.fail("Ring", names=tuple([places[place] for place in [foot] + stops[:-1]]))
        roads.append((foot, head))
        holes.append(hole)
    order, left = [first], [place for place in range(len(places)) if place not in (first, last)]
    while left:
        order.append([place for place in left if not [foot for foot, head in roads if head == place and foot in left]][0])
        left.remove(order[-1])
    number = {place: at for at, place in enumerate(order + [last])}
    net = (len(places), tuple([(number[foot], number[head]) for foot, head in roads]))
    while row.comes("known"):
        row.take("known")
        times = row.number(TOP)
        row.take(":")
        known.append((row.several(names), times))
        row.take(";")
        if times == 0 or known[-1][0] not in all_trips(net):
            row.fail("Unfit")
    while row.comes("ask|say"):
        word = row.take("ask|say")
        if len(asks) == 40:
            row.fail("TooMany", limit=40)
        asks.append(row.ask(names) if word == "ask" else ("say", row.saying(names, 0)))
        row.take(";")
        question = asked_question(asks[-1])
        if question is not None and not is_question(net, question):
            row.fail("Unfit")
    if row.row[row.at][0] != "end" or row.row[row.at][2] < len(text):
        row.fail("BadText", place=row.row[row.at][2])
    told = tuple([places[place] for place in order + [last]])
    return (told, tuple(names), net, tuple(holes), tuple(known), tuple(asks))


def read_as_told(text):
    """What read_book has to tell of text, as answer tells it."""
    try:
        return ("returns", repr(book_of(text)))
    except Fault as fault:
        return fault.args[0]


def does_hold(saying, told):
    """Whether saying holds in told, as the document tells it."""
    word, first, *second = saying
    if word == "not":
        return not does_hold(first, told)
    if word == "follow":
        return not [trip for trip, _ in told if first in trip and second[0] not in trip]
    number = numbers_of(second[0], [told])[0]
    return number >= first if word == "least" else number <= first


def said_of(saying, right):
    """What is to be said of saying, if right are all explanations that count."""
    held = [does_hold(saying, told) for told in right]
    if all(held):
        return "surely"
    return "perhaps" if any(held) else "never"


def has_known(told, known):
    """Whether an explanation has all known trips, each as often as known tells of it together."""
    times = dict(told)
    return all([times.get(trip, 0) >= sum([often for one, often in known if one == trip]) for trip, _ in known])


def some_known(chance, told):
    """Some trips of an explanation, some of them not as often as they were made, one perhaps told twice."""
    known = [(trip, chance.randint(1, times)) for trip, times in told if chance.random() < 0.5]
    split = [(trip, often - 1) for trip, often in known if often > 1][:1]
    known = [(trip, 1 if (trip, often - 1) in split else often) for trip, often in known] + split
    return tuple(chance.sample(known, len(known)))


@cache
def known_often():
    """Quadruples of a small net, a tally, some known trips, and all explanations that have them; some have several."""
    chance = random.Random(91)
    found = []
    for net, tally, right in some_explained():
        for _ in range(3):
            known = some_known(chance, chance.choice(right))
            found.append((net, tally, known, [told for told in right if has_known(told, known)]))
    return found


def all_sayings(net, tally, questions):
    """Sayings about each of questions with all numbers that may come, and about each pair of roads."""
    roads = range(len(net[1]))
    numbers = range(sum([tally[road] for road in roads if net[1][road][0] == 0]) + 2)
    found = [(word, number, question) for word in ("least", "most") for number in numbers for question in questions]
    return found + [("follow", a, b) for a in roads for b in roads]


def random_plan(chance, rooms, beats, most):
    """A plan of at most so many rooms, beats and doors, drawn by chance; its net is within the bounds."""
    while True:
        many, hours, doors = chance.randint(1, rooms), chance.randint(1, beats), []
        for _ in range(chance.randint(1, most)):
            one, other = chance.sample(range(-1, many), 2)
            doors.append((one, other, 0 if -1 in (one, other) else chance.randint(1, chance.choice((1, 2, 6)))))
        roads = sum([max(0, hours - time) for _, _, time in doors]) + many * hours
        if many * hours <= 22 and roads <= 60:
            return (many, hours, tuple(doors))


@cache
def some_plans():
    """Plans small and great, with the edges that the document names."""
    chance = random.Random(98)
    plans = [(1, 1, ((-1, 0, 0),)), (1, 1, ((0, -1, 0),)), (2, 3, ((-1, 0, 0), (0, 1, 1), (1, -1, 0), (0, -1, 0))),
             (2, 2, ((0, 1, 2), (1, 0, 6), (-1, 1, 0))), (2, 2, ((0, 1, 6),)), (6, 3, ((0, 5, 1), (5, 0, 2))),
             (3, 6, ((-1, 0, 0), (0, 1, 1), (1, 2, 2), (2, 0, 3), (0, 2, 5), (2, -1, 0), (1, 0, 1))),
             (1, 6, ((-1, 0, 0), (0, -1, 0)) * 4 + ((-1, 0, 0),)), (2, 6, ((-1, 0, 0),) * 8)]
    return plans + [random_plan(chance, 3, 4, 5) for _ in range(60)] + [random_plan(chance, 6, 6, 12) for _ in range(40)]


def walk(plan, counts):
    """Who waits from each beat on in each room, by walking through beats and rooms; what lacks, None if nothing does.

    Waits are told as a dict from (room, beat).
    """
    rooms, beats, doors = plan
    waits, there = {}, {room: 0 for room in range(rooms)}
    coming = {}
    for beat in range(beats):
        for room in range(rooms):
            come = sum([part[beat] for (one, other, _), part in zip(doors, counts) if one == -1 and other == room])
            there[room] += come + coming.get((room, beat), 0)
            for (one, other, time), part in zip(doors, counts):
                if one == room and beat < len(part):
                    there[room] -= part[beat]
                    coming[other, beat + time] = coming.get((other, beat + time), 0) + part[beat]
            if there[room] < 0:
                return waits, ("lack", room, beat)
            waits[room, beat] = there[room]
    return waits, None


def random_counts(chance, plan, most):
    """Counts of plan by which nowhere more leave than are there, drawn by chance."""
    rooms, beats, doors = plan
    counts = [[0] * max(0, beats - time) for _, _, time in doors]
    there, coming = {room: 0 for room in range(rooms)}, {}
    for beat in range(beats):
        for door, (one, other, _) in enumerate(doors):
            if one == -1:
                counts[door][beat] = chance.choice((0, chance.randint(0, most)))
                there[other] += counts[door][beat]
        for room in range(rooms):
            there[room] += coming.get((room, beat), 0)
        for door, (one, other, time) in enumerate(doors):
            if one != -1 and beat + time < beats:
                counts[door][beat] = min(most, chance.choice((0, there[one], chance.randint(0, there[one]))))
                there[one] -= counts[door][beat]
                coming[other, beat + time] = coming.get((other, beat + time), 0) + counts[door][beat]
    return tuple([tuple(part) for part in counts])


def random_known_book(chance, net, tally, told):
    """A book of net, which has trips, and tally, with asks and with known trips, some of those of told."""
    places = tuple([f"p{place}" for place in range(net[0])])
    names = tuple([f"r{road}" for road in range(len(tally))])
    asks = tuple([random_ask(chance, net, max(tally)) for _ in range(4)])
    return (places, names, net, tuple([(count, count) for count in tally]), some_known(chance, told), asks)
