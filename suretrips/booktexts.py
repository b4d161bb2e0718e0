"""Books of a net, its counts and what is asked of them: how they are written as texts, and read."""

from suretrips.bounds import MAX_ASKS, MAX_COUNT, MAX_HOLE, MAX_NOTS, MAX_PLACES, MAX_ROADS
from suretrips.errors import BadText, NoName, Ring, Taken, TooMany, Unfit
from suretrips.helpers import Rooms
from suretrips.lexing import Reader
from suretrips.nets import trip_error
from suretrips.questions import question_error
from suretrips.verdicts import saying_error

LEAST_PLACES = 2


def names_text(names, roads):
    """The names of roads, a blank ahead of each."""
    return "".join([f" {names[road]}" for road in roads])


def question_text(names, question):
    """The words of question."""
    word, *told = question
    return word + names_text(names, told if word == "both" else told[0])


def saying_text(names, saying):
    """The words of saying."""
    word, *told = saying
    if word == "not":
        return "not " + saying_text(names, told[0])
    if word == "follow":
        return "follow" + names_text(names, told)
    return f"{word} {told[0]} {question_text(names, told[1])}"


def ask_text(names, ask):
    """The line of ask."""
    word, *told = ask
    if word == "say":
        return f"say {saying_text(names, told[0])};"
    if word == "sure":
        return "ask sure;"
    if word == "followers":
        return f"ask followers {names[told[0]]};"
    return f"ask {word} {question_text(names, told[0])};"


def hole_text(hole):
    """The text of a pair of a low and a high."""
    low, high = hole
    if low == high:
        return str(low)
    if high is None:
        return f"{low}.." if low > 0 else "?"
    return f"{low}..{high}"


def book_text(book):
    """The text of book."""
    places, names, net, holes, known, asks = book
    _, roads = net
    lines = ["places " + " ".join(places) + ";", f"in {places[0]};", f"out {places[-1]};"]
    for name, (foot, head), hole in zip(names, roads, holes):
        lines.append(f"road {name}: {places[foot]} > {places[head]} {hole_text(hole)};")
    lines.extend([f"known {times}:{names_text(names, trip)};" for trip, times in known])
    lines.extend([ask_text(names, ask) for ask in asks])
    return "\n".join(lines)


def read_told(reader, names):
    """The number of the one of names that comes next, and the place in the text where it stands."""
    name, place = reader.want_name()
    if name not in names:
        raise NoName(name)
    return names.index(name), place


def read_one(reader, names):
    """The number of the one of names that comes next."""
    number, _ = read_told(reader, names)
    return number


def read_roads(reader, names):
    """The numbers of the roads, one or more, whose names come next."""
    roads = [read_one(reader, names)]
    while reader.name_comes():
        roads.append(read_one(reader, names))
    return tuple(roads)


def read_question(reader, names):
    """The question that comes next, which need not be one of the net yet."""
    word = reader.want("along", "touch", "both")
    if word == "both":
        one = read_one(reader, names)
        return (word, one, read_one(reader, names))
    roads = read_roads(reader, names)
    return (word, tuple(sorted(roads)) if word == "touch" else roads)


def read_saying(reader, names):
    """The saying that comes next, whose question need not be one of the net yet."""
    nots = 0
    while reader.comes("not"):
        reader.read()
        nots += 1
        if nots > MAX_NOTS:
            raise TooMany(MAX_NOTS)
    word = reader.want("least", "most", "follow")
    if word == "follow":
        one = read_one(reader, names)
        saying = (word, one, read_one(reader, names))
    else:
        number = reader.want_number(MAX_COUNT)
        saying = (word, number, read_question(reader, names))
    for _ in range(nots):
        saying = ("not", saying)
    return saying


class Draft:
    """What has been read of a book so far; places are numbered as they are told."""

    def __init__(self):
        self.places = []
        self.first = None
        self.last = None
        self.names = []
        self.roads = []
        self.holes = []

    def take_name(self, name, names, limit):
        """Put name to names, of which there may be so many."""
        if name in self.places or name in self.names:
            raise Taken(name)
        if len(names) == limit:
            raise TooMany(limit)
        names.append(name)


def read_places(reader, draft):
    """Read the line of the places."""
    reader.want("places")
    while len(draft.places) < LEAST_PLACES or reader.name_comes():
        name, _ = reader.want_name()
        draft.take_name(name, draft.places, MAX_PLACES)
    reader.want(";")


def read_gates(reader, draft):
    """Read the lines of the first place and of the last one."""
    reader.want("in")
    draft.first = read_one(reader, draft.places)
    reader.want(";")
    reader.want("out")
    draft.last = read_one(reader, draft.places)
    if draft.last == draft.first:
        raise Taken(draft.places[draft.last])
    reader.want(";")


def read_hole(reader):
    """The low and the high that come next; the high may be less."""
    if reader.comes("?"):
        reader.read()
        return (0, None)
    low = reader.want_number(MAX_HOLE)
    if not reader.comes(".."):
        return (low, low)
    reader.read()
    return (low, reader.want_number(MAX_HOLE) if reader.number_comes() else None)


def read_end(reader, draft, barred):
    """The place at which a road begins or ends, as its name comes next; not the one that is barred."""
    place, at = read_told(reader, draft.places)
    if place == barred:
        raise BadText(at)
    return place


def ring(draft, foot, head):
    """The names of the places on the ring that a road from foot to head closes with the roads of draft, () if none."""
    if foot == head:
        return (draft.places[foot],)
    rooms = Rooms(len(draft.places))
    for start, end in draft.roads:
        rooms.link(start, end, 1, 0)
    # Arcs are tried in their order, so this is the first one of the shortest ways; its last arc comes first.
    way = [rooms.heads[arc] for arc in reversed(rooms.way(head, foot))]
    return tuple([draft.places[place] for place in [foot, head] + way[:-1]]) if way else ()


def read_road_line(reader, draft):
    """Read the line of a road."""
    reader.want("road")
    name, _ = reader.want_name()
    draft.take_name(name, draft.names, MAX_ROADS)
    reader.want(":")
    foot = read_end(reader, draft, draft.last)
    reader.want(">")
    head = read_end(reader, draft, draft.first)
    low, high = read_hole(reader)
    reader.want(";")
    if high is not None and high < low:
        raise Unfit()
    names = ring(draft, foot, head)
    if names:
        raise Ring(names)
    draft.roads.append((foot, head))
    draft.holes.append((low, high))


def in_order(draft):
    """The places in the order in which they stand in the net."""
    order = [draft.first]
    left = [place for place in range(len(draft.places)) if place not in (draft.first, draft.last)]
    while left:
        barred = [head for foot, head in draft.roads if foot in left]
        free = [place for place in left if place not in barred]
        order.append(free[0])
        left = [place for place in left if place != free[0]]
    return order + [draft.last]


def read_known(reader, net, names):
    """The known trip that the next line tells, and how often it is told."""
    reader.want("known")
    times = reader.want_number(MAX_COUNT)
    reader.want(":")
    trip = read_roads(reader, names)
    reader.want(";")
    if times == 0 or trip_error(net, trip) is not None:
        raise Unfit()
    return (trip, times)


def read_ask(reader, names):
    """What is asked behind the word "ask"."""
    word = reader.want("least", "most", "followers", "sure")
    if word == "sure":
        return (word,)
    return (word, read_one(reader, names) if word == "followers" else read_question(reader, names))


def ask_error(net, ask):
    """What is wrong with ask where all its roads are roads of net; None if nothing is."""
    word, *told = ask
    if word == "say":
        return saying_error(net, told[0])
    return question_error(net, told[0]) if word in ("least", "most") else None


def read_asks(reader, net, names):
    """All that the further lines ask."""
    asks = []
    while reader.comes("ask", "say"):
        word = reader.want("ask", "say")
        if len(asks) == MAX_ASKS:
            raise TooMany(MAX_ASKS)
        ask = read_ask(reader, names) if word == "ask" else (word, read_saying(reader, names))
        reader.want(";")
        if ask_error(net, ask) is not None:
            raise Unfit()
        asks.append(ask)
    return tuple(asks)


def read_book(value):
    """The book that value tells."""
    reader, draft = Reader(value), Draft()
    read_places(reader, draft)
    read_gates(reader, draft)
    while not draft.names or reader.comes("road"):
        read_road_line(reader, draft)
    order = in_order(draft)
    net = (len(order), tuple([(order.index(foot), order.index(head)) for foot, head in draft.roads]))
    names = tuple(draft.names)
    known = []
    while reader.comes("known"):
        known.append(read_known(reader, net, names))
    asks = read_asks(reader, net, names)
    reader.want_end()
    places = tuple([draft.places[place] for place in order])
    return (places, names, net, tuple(draft.holes), tuple(known), asks)
