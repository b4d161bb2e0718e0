"""Explanations of which a question takes a wanted number of trips.

Who goes along a road is told apart: who may still be taken because of what was passed ahead is on, others are off.
For "touch" those are on who have touched a mark, for "both" those who passed the road that is ahead, and for "along"
those who came by all of the stretch up to here.
"""

from suretrips.answering import least, most, one_ahead
from suretrips.errors import Unfit
from suretrips.explaining import explained
from suretrips.helpers import Rooms
from suretrips.nets import roads_from
from suretrips.stretches import least_along
from suretrips.tallies import total

OFF = 0
ON = 1


def state_behind(rule, state, road):
    """Whether who comes to road on or off is on or off behind it, by rule: a word and the roads that it is about."""
    word, roads = rule
    if word == "touch":
        return ON if road in roads else state
    if road == roads[-1]:
        return OFF
    return ON if road == roads[0] or (road in roads and state == ON) else OFF


def on_for_touch(net, tally, marks, number):
    """For each road how many come to it who have touched a road of marks, if number do so in all."""
    many, roads = net
    # Who touches a first mark ends at a place more, behind all others.
    rooms = Rooms(many + 1)
    for road, (foot, head) in enumerate(roads):
        rooms.link(foot, many if road in marks else head, tally[road], 0)
    everybody = total(net, tally)
    rooms.even([everybody] + [0] * (many - 2) + [number - everybody, -number])
    return [count - rooms.left[2 * road + 1] for road, count in enumerate(tally)]


def on_for_both(net, tally, ahead, behind, number):
    """For each road how many come to it who have passed the road ahead, if number of them pass behind, too."""
    many, roads = net
    rooms = Rooms(many)
    for road, (foot, head) in enumerate(roads):
        rooms.link(foot, head, 0 if road == behind else tally[road], 0)
    # Along behind just number have to go: they are taken away at its foot, and come back at its head.
    surpluses = [0] * many
    for place, much in ((roads[ahead][1], tally[ahead]), (many - 1, -tally[ahead]),
                        (roads[behind][0], -number), (roads[behind][1], number)):
        surpluses[place] += much
    rooms.even(surpluses)
    return [number if road == behind else rooms.left[2 * road + 1] for road in range(len(roads))]


def on_for_along(net, tally, stretch, number):
    """For each road how many come to it by all of the stretch ahead of it, if number go along all of stretch."""
    _, roads = net
    on = [0] * len(roads)
    there = tally[stretch[0]]
    for at, road in enumerate(stretch[1:]):
        on[road] = max(number, least_along(net, tally, stretch[:at + 2]))
        leave = there - on[road]
        for other in roads_from(net, roads[road][0]):
            if other != road:
                on[other] = min(leave, tally[other])
                leave -= on[other]
        there = on[road]
    return on


def way_left(net, rule, left):
    """The pairs of a state and a road by which one comes from in to out where some are left; [] if nobody is."""
    many, roads = net
    steps, place, state = [], 0, OFF
    while place < many - 1:
        choice = [road for road in roads_from(net, place) if left[state][road] > 0]
        if not choice:
            return []
        steps.append((state, choice[0]))
        state = state_behind(rule, state, choice[0])
        place = roads[choice[0]][1]
    return steps


def taken_apart(net, tally, rule, on):
    """The explanation that has so many on at each road as on tells."""
    left = [[count - part for count, part in zip(tally, on)], on]
    told = []
    steps = way_left(net, rule, left)
    while steps:
        # Something comes to 0 each time, of two numbers for each road: so trips come ascending, 120 at the most.
        times = min([left[state][road] for state, road in steps])
        for state, road in steps:
            left[state][road] -= times
        told.append((tuple([road for _, road in steps]), times))
        steps = way_left(net, rule, left)
    return tuple(told)


def with_number_of_both(net, tally, one, other, number):
    """An explanation in which number trips use both roads."""
    pair = one_ahead(net, one, other)
    if pair is None:
        # Here the number is the same in all explanations.
        return explained(net, tally)
    ahead, behind = pair
    return taken_apart(net, tally, ("touch", (ahead,)), on_for_both(net, tally, ahead, behind, number))


def with_number(net, tally, question, number):
    """An explanation of tally of which question takes number trips."""
    if not least(net, tally, question) <= number <= most(net, tally, question):
        raise Unfit()
    word, *told = question
    if word == "both":
        return with_number_of_both(net, tally, told[0], told[1], number)
    if word == "touch":
        return taken_apart(net, tally, question, on_for_touch(net, tally, told[0], number))
    return taken_apart(net, tally, question, on_for_along(net, tally, told[0], number))
