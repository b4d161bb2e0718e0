"""Explanations: which trips, and each how often, make a tally."""

from suretrips.bounds import MAX_ALL, MAX_TRIPS
from suretrips.errors import TooMany
from suretrips.helpers import is_integer, is_row
from suretrips.nets import roads_from, trip_error
from suretrips.tallies import total


def has_pairs(value):
    """Whether value is a tuple of at most MAX_TRIPS pairs."""
    if not isinstance(value, tuple) or len(value) > MAX_TRIPS:
        return False
    return all([is_row(item, 2) for item in value])


def explanation_error(net, tally, value):
    """What is wrong with value as an explanation of tally; None if nothing is."""
    if not has_pairs(value):
        return "form"
    for place, (trip, _) in enumerate(value):
        if trip_error(net, trip) is not None:
            return ("trip", place)
    for place, (_, times) in enumerate(value):
        if not is_integer(times) or times < 1:
            return ("times", place)
    for place in range(1, len(value)):
        if value[place][0] <= value[place - 1][0]:
            return ("order", place)
    for road, count in enumerate(tally_of(net, value)):
        if count != tally[road]:
            return ("road", road)
    return None


def tally_of(net, told):
    """The count of each road that the trips of told make."""
    _, roads = net
    counts = [0] * len(roads)
    for trip, times in told:
        for road in trip:
            counts[road] += times
    return tuple(counts)


def counted_from(net, counts, place):
    """The roads from place whose counts are above 0."""
    return [road for road in roads_from(net, place) if counts[road] > 0]


def first_trip(net, counts):
    """The first trip of roads whose counts, which balance, are above 0; () if there is none."""
    _, roads = net
    trip = []
    choice = counted_from(net, counts, 0)
    while choice:
        trip.append(choice[0])
        choice = counted_from(net, counts, roads[choice[0]][1])
    return tuple(trip)


def explained(net, tally):
    """An explanation of tally that has at most as many pairs as net has roads."""
    left = list(tally)
    told = []
    trip = first_trip(net, left)
    while trip:
        times = min([left[road] for road in trip])
        for road in trip:
            left[road] -= times
        # One road more is used up each time, so trips come ascending, and no more than there are roads.
        told.append((trip, times))
        trip = first_trip(net, left)
    return tuple(told)


def refuse_too_many(found):
    """TooMany if more than MAX_ALL ways were found."""
    if len(found) > MAX_ALL:
        raise TooMany(MAX_ALL)


def splits(amount, rooms):
    """All ways to split amount into a part for each of rooms, none greater than its room."""
    found = [((), amount)]
    behind = sum(rooms)
    for room in rooms:
        behind -= room
        further = []
        for parts, left in found:
            for part in range(max(0, left - behind), min(left, room) + 1):
                further.append((parts + (part,), left - part))
                # There may be as many parts as counts are great, so this is not left until later.
                refuse_too_many(further)
        found = further
    return [parts for parts, _ in found]


def tables(amounts, rooms):
    """All ways to split each of amounts so that all rooms, together as much as they, are full."""
    found = [((), rooms)]
    for amount in amounts:
        further = []
        for lines, left in found:
            for parts in splits(amount, left):
                further.append((lines + (parts,), [room - part for room, part in zip(left, parts)]))
            refuse_too_many(further)
        found = further
    return [lines for lines, _ in found]


def parted(net, begun, place):
    """The pairs of begun whose beginnings of trips end at place, and the other ones."""
    _, roads = net
    here, others = [], []
    for pair in begun:
        begin, _ = pair
        end = roads[begin[-1]][1] if begin else 0
        if end == place:
            here.append(pair)
        else:
            others.append(pair)
    return here, others


def gone_on(net, tally, begun, place):
    """All that begun, pairs of a trip's beginning and its times, can become when all who stand at place go on."""
    here, others = parted(net, begun, place)
    choice = counted_from(net, tally, place)
    found = []
    for lines in tables([times for _, times in here], [tally[road] for road in choice]):
        further = list(others)
        for (begin, _), parts in zip(here, lines):
            further.extend([(begin + (road,), part) for road, part in zip(choice, parts) if part > 0])
        found.append(further)
    return found


def all_explained(net, tally):
    """All explanations of tally, ascending."""
    many, _ = net
    found = [[((), total(net, tally))]]
    # However some go on at a place, the rest can be explained: so each way that is found leads to an explanation.
    for place in range(many - 1):
        further = []
        for begun in found:
            further.extend(gone_on(net, tally, begun, place))
            refuse_too_many(further)
        found = further
    return tuple(sorted([tuple(sorted(told)) for told in found]))


def settled(net, tally):
    """Whether tally has just one explanation."""
    many, roads = net
    ways = [1] + [0] * (many - 1)
    for place in range(many - 1):
        choice = counted_from(net, tally, place)
        if ways[place] > 1 and len(choice) > 1:
            return False
        for road in choice:
            ways[roads[road][1]] += ways[place]
    return True
