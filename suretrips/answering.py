"""The least and the greatest number of trips that a question takes, over all explanations of a tally."""

from suretrips.flows import greatest_flow
from suretrips.nets import leads, roads_from, roads_to
from suretrips.stretches import least_along, most_along
from suretrips.tallies import total


def shut(tally, marks):
    """The counts of tally as rooms, but nothing for the roads of marks."""
    return tuple([0 if road in marks else count for road, count in enumerate(tally)])


def flow_untouched(net, tally, marks):
    """A greatest flow of those who touch no road of marks, as greatest_flow tells it."""
    many, _ = net
    return greatest_flow(net, shut(tally, marks), (0,), (many - 1,), ())


def flow_touching(net, tally, marks):
    """A greatest flow of those who touch a road of marks, up to the first one, as greatest_flow tells it."""
    return greatest_flow(net, tally, (0,), (), marks)


def flow_past(net, tally, road, place):
    """A greatest flow from in to place that does not use road, as greatest_flow tells it."""
    return greatest_flow(net, shut(tally, (road,)), (0,), (place,), ())


def flow_behind(net, tally, road, place):
    """A greatest flow from the head of road to place, another one, as greatest_flow tells it."""
    _, roads = net
    return greatest_flow(net, tally, (roads[road][1],), (place,), ())


def one_ahead(net, one, other):
    """The pair of both roads with the one first that is ahead; None if neither is, or they are one road."""
    if leads(net, one, other):
        return (one, other)
    return (other, one) if leads(net, other, one) else None


def always_both(tally, one, other):
    """How many trips use both roads in each explanation, as neither is ahead."""
    return tally[one] if one == other else 0


def least_both(net, tally, one, other):
    """The least number of trips that use both roads."""
    pair = one_ahead(net, one, other)
    if pair is None:
        return always_both(tally, one, other)
    ahead, behind = pair
    past, _, _ = flow_past(net, tally, ahead, net[1][behind][0])
    return max(0, tally[behind] - past)


def most_both(net, tally, one, other):
    """The greatest number of trips that use both roads."""
    _, roads = net
    pair = one_ahead(net, one, other)
    if pair is None:
        return always_both(tally, one, other)
    ahead, behind = pair
    bounds = [tally[ahead], tally[behind]]
    if roads[ahead][1] != roads[behind][0]:
        between, _, _ = flow_behind(net, tally, ahead, roads[behind][0])
        bounds.append(between)
    return min(bounds)


def least(net, tally, question):
    """The least number of trips that question takes, over all explanations of tally."""
    word, *told = question
    if word == "along":
        return least_along(net, tally, told[0])
    if word == "touch":
        untouched, _, _ = flow_untouched(net, tally, told[0])
        return total(net, tally) - untouched
    return least_both(net, tally, told[0], told[1])


def most(net, tally, question):
    """The greatest number of trips that question takes, over all explanations of tally."""
    word, *told = question
    if word == "along":
        return most_along(net, tally, told[0])
    if word == "touch":
        touching, _, _ = flow_touching(net, tally, told[0])
        return touching
    return most_both(net, tally, told[0], told[1])


def door_table(net, tally):
    """For each road from in, and each road to out, the least and the greatest number of trips that use both."""
    many, _ = net
    outs = roads_to(net, many - 1)
    return tuple([tuple([(least_both(net, tally, one, other), most_both(net, tally, one, other)) for other in outs])
                  for one in roads_from(net, 0)])
