"""Greatest flows through a net, and cuts and endless ways that show that they are."""

from suretrips.helpers import Rooms, is_answer, is_ascending, is_integer, lies_in


def rooms_between(net, room, feet, heads, ends, endless):
    """The rooms of the roads, from source by feet to heads and so to sink; a road of ends leads to sink itself."""
    many, roads = net
    rooms = Rooms(many)
    for road, (foot, head) in enumerate(roads):
        rooms.link(foot, rooms.sink if road in ends else head, endless if room[road] is None else room[road], 0)
    for place in feet:
        rooms.link(rooms.source, place, endless, 0)
    for place in heads:
        rooms.link(place, rooms.sink, endless, 0)
    return rooms


def endless_way(net, room, feet, heads, ends):
    """An endless way; () if there is none."""
    _, roads = net
    without_bound = [None if most is None else 0 for most in room]
    rooms = rooms_between(net, without_bound, feet, heads, ends, 1)
    arcs = rooms.way(rooms.source, rooms.sink)
    # The arcs behind those of the roads are the ones from source and to sink.
    return tuple([arc // 2 for arc in reversed(arcs) if arc < 2 * len(roads)])


def greatest_flow(net, room, feet, heads, ends):
    """A greatest flow with its value and a cut of just this room; or None, an endless way and ()."""
    _, roads = net
    way = endless_way(net, room, feet, heads, ends)
    if way:
        return (None, way, ())
    endless = 1 + sum([most for most in room if most is not None])
    rooms = rooms_between(net, room, feet, heads, ends, endless)
    value = rooms.push(rooms.source, rooms.sink)
    return (value, tuple([rooms.left[2 * road + 1] for road in range(len(roads))]), rooms.side())


def is_endless_way(net, room, feet, heads, ends, way):
    """Whether way, a tuple, is an endless way."""
    _, roads = net
    if not way or not all([lies_in(road, 0, len(roads) - 1) for road in way]):
        return False
    if any([room[road] is not None for road in way]) or any([road in ends for road in way[:-1]]):
        return False
    if any([roads[road][1] != roads[further][0] for road, further in zip(way, way[1:])]):
        return False
    return roads[way[0]][0] in feet and (way[-1] in ends or roads[way[-1]][1] in heads)


def wrong_road(room, flow):
    """The least road at which flow has nothing that goes into its room; None if there is none."""
    for road, most in enumerate(room):
        if road >= len(flow) or not is_integer(flow[road]) or flow[road] < 0:
            return road
        if most is not None and flow[road] > most:
            return road
    return len(room) if len(flow) > len(room) else None


def gains(net, ends, flow):
    """For each place how much more goes away from it than comes to it by roads that are not in ends."""
    many, roads = net
    more = [0] * many
    for road, (foot, head) in enumerate(roads):
        more[foot] += flow[road]
        if road not in ends:
            more[head] -= flow[road]
    return more


def is_cut(net, feet, heads, value):
    """Whether value has all of feet and none of heads, as an ascending tuple of places."""
    many, _ = net
    if not is_ascending(value, many):
        return False
    return all([place in value for place in feet]) and not any([place in value for place in heads])


def room_out(net, room, ends, cut):
    """The rooms of the roads that leave cut, together; None if one of them is without bound."""
    _, roads = net
    together = 0
    for road, (foot, head) in enumerate(roads):
        if foot in cut and (head not in cut or road in ends):
            if room[road] is None:
                return None
            together += room[road]
    return together


def flow_error(net, room, feet, heads, ends, value):
    """What is wrong with value as an answer of greatest_flow; None if nothing is."""
    if not is_answer(value):
        return "form"
    worth, second, third = value
    if worth is None:
        if not is_endless_way(net, room, feet, heads, ends, second):
            return "way"
        return None if third == () else "cut"
    road = wrong_road(room, second)
    if road is not None:
        return ("road", road)
    more = gains(net, ends, second)
    for place, gain in enumerate(more):
        if gain != 0 and place not in feet and place not in heads:
            return ("place", place)
    if not is_cut(net, feet, heads, third):
        return "cut"
    if worth != sum([more[place] for place in feet]) or worth != room_out(net, room, ends, third):
        return "value"
    return None
