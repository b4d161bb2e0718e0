"""Holes: bounds for counts that lack, the tallies within them, and bars that show that there are none."""

from suretrips.bounds import MAX_HOLE
from suretrips.errors import Unfit
from suretrips.helpers import Rooms, is_ascending, is_row, lies_in
from suretrips.tallies import total


def is_hole(value):
    """Whether value is a pair of a low and a high."""
    if not is_row(value, 2) or not lies_in(value[0], 0, MAX_HOLE):
        return False
    low, high = value
    return high is None or lies_in(high, low, MAX_HOLE)


def holes_error(net, value):
    """What is wrong with value as holes of net; None if nothing is."""
    _, roads = net
    if not is_row(value, len(roads)):
        return "form"
    for road, hole in enumerate(value):
        if not is_hole(hole):
            return ("road", road)
    return None


def is_within(holes, tally):
    """Whether each count of tally is as its hole lets it be."""
    for (low, high), count in zip(holes, tally):
        if count < low or (high is not None and count > high):
            return False
    return True


def highs_together(holes):
    """All highs that are told, together."""
    return sum([high for _, high in holes if high is not None])


def endless_room(holes, counts):
    """More than can ever be sent where some road on the way has a bound: the room of what has none."""
    # What is counted may go back once along its road, and once more from in to out.
    return 1 + highs_together(holes) + 2 * sum(counts)


def rooms_around(net, holes, counts, many_trips):
    """The rooms that holes leave around counts; from out to in a road without bound leads many_trips back."""
    many, roads = net
    rooms = Rooms(many)
    endless = endless_room(holes, counts)
    for (foot, head), (low, high), count in zip(roads, holes, counts):
        rooms.link(foot, head, endless if high is None else high - count, count - low)
    rooms.link(many - 1, 0, endless, many_trips)
    return rooms


def surpluses(net, counts):
    """For each place how many more come to it by counts than go from it."""
    many, roads = net
    much = [0] * many
    for (foot, head), count in zip(roads, counts):
        much[foot] -= count
        much[head] += count
    return much


def evened(net, holes):
    """The rooms after the lows were evened at all places as far as can be, and whether all are even."""
    lows = [low for low, _ in holes]
    rooms = rooms_around(net, holes, lows, 0)
    return rooms, rooms.even(surpluses(net, lows))


def filled(net, holes):
    """A tally of net within holes."""
    rooms, is_even = evened(net, holes)
    if not is_even:
        raise Unfit()
    # The way back of a road's arc has as much room as the road's count is above its low.
    return tuple([low + rooms.left[2 * road + 1] for road, (low, _) in enumerate(holes)])


def no_filling(net, holes):
    """A bar of holes; None if there is a tally within them."""
    rooms, is_even = evened(net, holes)
    return None if is_even else rooms.side()


def bar_error(net, holes, value):
    """What is wrong with value as a bar of holes; None if nothing is."""
    many, roads = net
    if not is_ascending(value, many):
        return "form"
    if many - 1 in value and 0 not in value:
        return "out"
    much = 0
    for road, (foot, head) in enumerate(roads):
        low, high = holes[road]
        if foot in value and head not in value:
            if high is None:
                return ("open", road)
            much -= high
        if head in value and foot not in value:
            much += low
    return None if much > 0 else "little"


def narrowed(net, holes):
    """The least and the greatest count that each road has in the tallies of net within holes."""
    tally = filled(net, holes)
    return tuple([narrowed_at(net, holes, tally, road) for road in range(len(holes))])


def narrowed_at(net, holes, tally, road):
    """The least and the greatest count of road, tally being any tally within holes."""
    foot, head = net[1][road]
    low, high = holes[road]
    count = tally[road]
    least = max(low, count - sent_past(net, holes, tally, road, foot, head))
    more = sent_past(net, holes, tally, road, head, foot)
    if high is not None:
        return (least, min(high, count + more))
    if more >= endless_room(holes, tally):
        return (least, None)
    return (least, count + more)


def sent_past(net, holes, tally, road, source, sink):
    """How much can be sent from source to sink in the rooms around tally, not along road."""
    rooms = rooms_around(net, holes, tally, total(net, tally))
    rooms.left[2 * road] = 0
    rooms.left[2 * road + 1] = 0
    return rooms.push(source, sink)
