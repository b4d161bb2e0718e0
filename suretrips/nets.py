"""Nets, their roads and their trips."""

from suretrips.bounds import MAX_PLACES, MAX_ROADS
from suretrips.errors import Unfit
from suretrips.helpers import is_integer, is_row, lies_in


def is_road_tuple(value):
    """Whether value has the form of roads: a tuple of 1 to MAX_ROADS items."""
    return isinstance(value, tuple) and 1 <= len(value) <= MAX_ROADS


def is_road_of(many, value):
    """Whether value is a pair of two of so many places, the lesser one first."""
    return is_row(value, 2) and lies_in(value[1], 0, many - 1) and lies_in(value[0], 0, value[1] - 1)


def net_error(value):
    """What is wrong with value as a net; None if nothing is."""
    if not is_row(value, 2) or not is_road_tuple(value[1]):
        return "form"
    many, roads = value
    if not lies_in(many, 2, MAX_PLACES):
        return "many"
    for place, road in enumerate(roads):
        if not is_road_of(many, road):
            return ("road", place)
    return None


def roads_from(net, place):
    """The roads whose foot is place, ascending."""
    _, roads = net
    return tuple([road for road, (foot, _) in enumerate(roads) if foot == place])


def roads_to(net, place):
    """The roads whose head is place, ascending."""
    _, roads = net
    return tuple([road for road, (_, head) in enumerate(roads) if head == place])


def places_behind(net, place):
    """The places to which one comes from place along roads, place itself too."""
    _, roads = net
    reached = [place]
    # Heads are greater than feet: sorted so, all roads to a place come ahead of those from it.
    for foot, head in sorted(roads):
        if foot in reached and head not in reached:
            reached.append(head)
    return reached


def places_ahead(net, place):
    """The places from which one comes to place along roads, place itself too."""
    _, roads = net
    reached = [place]
    for foot, head in sorted(roads, reverse=True):
        if head in reached and foot not in reached:
            reached.append(foot)
    return reached


def leads(net, one, other):
    """Whether one can come from the head of the road one to the foot of the road other."""
    _, roads = net
    return roads[other][0] in places_behind(net, roads[one][1])


def ways_out(net):
    """For each place how many ways lead from it to out."""
    many, roads = net
    ways = [0] * (many - 1) + [1]
    for foot, head in sorted(roads, reverse=True):
        ways[foot] += ways[head]
    return ways


def trip_count(net):
    """How many trips net has."""
    return ways_out(net)[0]


def road_at(net, ways, place, ahead):
    """The road that leads on from place behind so many ways to out, and how many of these begin with it, too."""
    _, roads = net
    left = ahead
    for road in roads_from(net, place):
        many_ways = ways[roads[road][1]]
        if left < many_ways:
            return road, left
        left -= many_ways
    raise Unfit()


def trip_at(net, number):
    """The trip ahead of which just number trips stand in ascending order."""
    many, roads = net
    if not is_integer(number) or number < 0:
        raise Unfit()
    ways = ways_out(net)
    trip, place, ahead = [], 0, number
    while place < many - 1:
        road, ahead = road_at(net, ways, place, ahead)
        trip.append(road)
        place = roads[road][1]
    return tuple(trip)


def trip_error(net, value):
    """What is wrong with value as a trip of net; None if nothing is."""
    many, roads = net
    if not is_road_tuple(value):
        return "form"
    for place, road in enumerate(value):
        if not lies_in(road, 0, len(roads) - 1):
            return ("road", place)
    end = 0
    for place, road in enumerate(value):
        foot, head = roads[road]
        if foot != end:
            return ("joint", place)
        end = head
    if end != many - 1:
        return "out"
    return None
