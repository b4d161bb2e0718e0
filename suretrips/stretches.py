"""Stretches: how many at least, and at most, go along some roads one behind another."""

from suretrips.costs import cost_of, least_cost
from suretrips.fillings import filled, highs_together, no_filling
from suretrips.helpers import lies_in
from suretrips.nets import roads_from, roads_to


def stretch_error(net, value):
    """What is wrong with value as a stretch of net; None if nothing is."""
    _, roads = net
    if not isinstance(value, tuple) or not value:
        return "form"
    for place, road in enumerate(value):
        if not lies_in(road, 0, len(roads) - 1):
            return ("road", place)
    for place in range(1, len(value)):
        if roads[value[place]][0] != roads[value[place - 1]][1]:
            return ("joint", place)
    return None


def excess_costs(net, stretch):
    """Costs by which that of a tally is its excess of stretch."""
    _, roads = net
    inner = [roads[road][1] for road in stretch[:-1]]
    costs = [-1 if foot in inner else 0 for foot, _ in roads]
    for road in stretch:
        costs[road] = 0
    costs[stretch[0]] = 1
    return tuple(costs)


def excess(net, tally, stretch):
    """The count of the first road of stretch less all that can leave its inner places otherwise."""
    return cost_of(excess_costs(net, stretch), tally)


def least_along(net, tally, stretch):
    """How many trips at least go along stretch."""
    return max(0, excess(net, tally, stretch))


def most_along(net, tally, stretch):
    """How many trips at most go along stretch."""
    return min([tally[road] for road in stretch])


def is_sure(net, tally, stretch):
    """Whether somebody goes along stretch in every explanation of tally."""
    return least_along(net, tally, stretch) > 0


def led_on(net, tally, stretch, much):
    """The sure stretches of one road more than stretch, whose excess is much, each with its excess."""
    _, roads = net
    choice = roads_from(net, roads[stretch[-1]][1])
    leaving = sum([tally[road] for road in choice])
    found = [(stretch + (road,), much - leaving + tally[road]) for road in choice]
    return [(longer, left) for longer, left in found if left > 0]


def sure_from(net, tally, road):
    """The sure stretches that begin with road and in no way lead on surely, each with its excess."""
    found = []
    # There are few: of those at a place just one at most, with more than half of all who are there, leads on twice.
    begun = [((road,), tally[road])] if tally[road] > 0 else []
    while begun:
        stretch, much = begun.pop()
        longer = led_on(net, tally, stretch, much)
        begun.extend(longer)
        if not longer:
            found.append((stretch, much))
    return found


def begins_late(net, tally, stretch, much):
    """Whether stretch, whose excess is much, is sure with one road more ahead of it, too."""
    foot = net[1][stretch[0]][0]
    coming = [tally[road] for road in roads_to(net, foot)]
    return bool(coming) and much - sum(coming) + max(coming) > 0


def sure_stretches(net, tally):
    """The sure stretches that lie in no other sure one, ascending."""
    _, roads = net
    found = []
    for road in range(len(roads)):
        for stretch, much in sure_from(net, tally, road):
            if not begins_late(net, tally, stretch, much):
                found.append(stretch)
    return tuple(sorted(found))


def least_through(net, holes, stretch):
    """The least number of trips that surely go along stretch, of all tallies within holes."""
    worth, _, _ = least_cost(net, holes, excess_costs(net, stretch))
    return 0 if worth is None else max(0, worth)


def with_at_least(holes, stretch, much):
    """The holes with lows of at least much on the roads of stretch."""
    return tuple([(max(low, much), high) if road in stretch else (low, high)
                  for road, (low, high) in enumerate(holes)])


def let_by(net, holes, stretch, bar, much):
    """How many at most can go along stretch as bar, one of much of them, tells."""
    _, roads = net
    room, raised = 0, 0
    for road, (foot, head) in enumerate(roads):
        low, high = holes[road]
        if foot in bar and head not in bar:
            room += high
        elif head in bar and foot not in bar:
            if road in stretch and low < much:
                raised += 1
            else:
                room -= low
    return room // raised


def most_through(net, holes, stretch):
    """The greatest number of trips that can go along stretch, of all tallies within holes; None if there is none."""
    # Unfit comes ahead of everything else.
    filled(net, holes)
    # Where so many fit any number does, as each bar has less room.
    beyond = 1 + highs_together(holes)
    much = min([holes[road][1] for road in stretch if holes[road][1] is not None], default=beyond)
    bar = no_filling(net, with_at_least(holes, stretch, much))
    while bar is not None:
        # Bars are those that lack most, so fewer roads of stretch lead into each one than into that ahead.
        much = let_by(net, holes, stretch, bar, much)
        bar = no_filling(net, with_at_least(holes, stretch, much))
    return None if much == beyond else much
