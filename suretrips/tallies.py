"""Tallies: how many went along each road."""

from suretrips.bounds import MAX_COUNT
from suretrips.errors import TooMany, Unfit
from suretrips.helpers import is_row, lies_in
from suretrips.nets import roads_from, roads_to


def count_of(counts, roads):
    """The counts of roads, together."""
    return sum([counts[road] for road in roads])


def tally_error(net, value):
    """What is wrong with value as a tally of net; None if nothing is."""
    many, roads = net
    if not is_row(value, len(roads)):
        return "form"
    for road, count in enumerate(value):
        if not lies_in(count, 0, MAX_COUNT):
            return ("road", road)
    for place in range(1, many - 1):
        if count_of(value, roads_to(net, place)) != count_of(value, roads_from(net, place)):
            return ("place", place)
    return None


def total(net, tally):
    """How many trips tally tells of."""
    return count_of(tally, roads_from(net, 0))


def passing(net, tally, place):
    """How many of the trips go through place."""
    many, _ = net
    if place in (0, many - 1):
        return total(net, tally)
    return count_of(tally, roads_to(net, place))


def put_together(one, other):
    """The tally that has for each road both counts together."""
    counts = tuple([count + more for count, more in zip(one, other)])
    if max(counts) > MAX_COUNT:
        raise TooMany(MAX_COUNT)
    return counts


def less(one, other):
    """The tally that has for each road the count of one less that of other."""
    counts = tuple([count - fewer for count, fewer in zip(one, other)])
    if min(counts) < 0:
        raise Unfit()
    return counts
