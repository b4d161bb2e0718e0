"""Exchanges of tails, which lead from any explanation of a tally to any other one."""

from suretrips.errors import Unfit
from suretrips.explaining import tally_of


def parted_at(net, trip, place):
    """The head and the tail of trip at place; None if it does not come there, or place is in or out."""
    _, roads = net
    for at, road in enumerate(trip[:-1]):
        if roads[road][1] == place:
            return trip[:at + 1], trip[at + 1:]
    return None


def change_times(times_of, key, change):
    """Add change to the times of key; what becomes 0 is gone."""
    times = times_of.get(key, 0) + change
    if times:
        times_of[key] = times
    else:
        del times_of[key]


def exchange(net, times_of, step):
    """Do step, a quadruple, with the trips of times_of; Unfit if it is no exchange there."""
    one, other, place, times = step
    if one == other or not 1 <= times <= min(times_of.get(one, 0), times_of.get(other, 0)):
        raise Unfit()
    mine, theirs = parted_at(net, one, place), parted_at(net, other, place)
    if mine is None or theirs is None:
        raise Unfit()
    # First what comes: where heads or tails are alike it is what goes.
    change_times(times_of, mine[0] + theirs[1], times)
    change_times(times_of, theirs[0] + mine[1], times)
    change_times(times_of, one, -times)
    change_times(times_of, other, -times)


def exchanged(net, explanation, steps):
    """The explanation that comes of explanation by the exchanges steps, one behind another."""
    times_of = dict(explanation)
    for step in steps:
        exchange(net, times_of, step)
    return tuple(sorted(times_of.items()))


def tails_at(net, times_of, place):
    """For each head at place how often it goes on by which tail."""
    table = {}
    for trip, times in times_of.items():
        parts = parted_at(net, trip, place)
        if parts is not None:
            head, tail = parts
            row = table.setdefault(head, {})
            row[tail] = times
    return table


def first_roads(row):
    """How often a row of tails begins with which road."""
    going = {}
    for tail, times in row.items():
        going[tail[0]] = going.get(tail[0], 0) + times
    return going


def unevenness(row, goal):
    """The tails of row that are too many by what goal tells of roads, and the roads that lack, each with times."""
    lacks = dict(goal)
    spare = []
    for tail in row:
        lack = lacks.get(tail[0], 0)
        kept = min(lack, row[tail])
        lacks[tail[0]] = lack - kept
        if row[tail] > kept:
            spare.append((tail, row[tail] - kept))
    return spare, [(road, lack) for road, lack in lacks.items() if lack > 0]


def givers(table, heads, road, lack):
    """Pairs of a head of heads and a tail that begins with road, each with times, together as many as lack."""
    found = []
    for head in heads:
        for tail in table[head]:
            if tail[0] == road and lack > 0:
                part = min(lack, table[head][tail])
                found.append(((head, tail), part))
                lack -= part
    return found


def matched(ones, others):
    """Triples of one of ones, one of others and times, so that each is there as often as it is told."""
    found = []
    rest = list(reversed(others))
    for one, times in ones:
        left = times
        while left > 0:
            other, spare = rest.pop()
            part = min(left, spare)
            found.append((one, other, part))
            left -= part
            if spare > part:
                rest.append((other, spare - part))
    return found


def steps_of_head(table, heads, goal, place):
    """Exchanges at place by which the first of heads goes on by the roads of goal; the other heads give the tails."""
    head = heads[0]
    spare, lacks = unevenness(table[head], goal)
    giving = []
    for road, lack in lacks:
        giving.extend(givers(table, heads[1:], road, lack))
    steps = []
    for mine, (other, tail), times in matched(spare, giving):
        steps.append((head + mine, other + tail, place, times))
        # Only those who gave are looked at again.
        change_times(table[other], tail, -times)
        change_times(table[other], mine, times)
    return steps


def steps_at(net, times_of, goals, place):
    """Exchanges at place by which each head there goes on by the roads by which it does in goals."""
    table = tails_at(net, times_of, place)
    wanted = tails_at(net, goals, place)
    heads = list(table)
    steps = []
    # A head that is done gives nothing any more: what the others have is just what they need together.
    for at, head in enumerate(heads):
        steps.extend(steps_of_head(table, heads[at:], first_roads(wanted[head]), place))
    return steps


def exchanges(net, one, other):
    """Exchanges that lead from the explanation one to the explanation other of the same tally."""
    many, _ = net
    if tally_of(net, one) != tally_of(net, other):
        raise Unfit()
    times_of, goals = dict(one), dict(other)
    steps = []
    # Place by place more is alike ahead: behind the last place all is.
    for place in range(1, many - 1):
        further = steps_at(net, times_of, goals, place)
        for step in further:
            exchange(net, times_of, step)
        steps.extend(further)
    return tuple(steps)
