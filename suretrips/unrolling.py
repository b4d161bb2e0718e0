"""The nets of plans, in which a room is another place at each beat, and counts at doors by the beats."""

from suretrips.bounds import MAX_COUNT
from suretrips.errors import BadTally, TooMany, Unfit
from suretrips.fillings import surpluses
from suretrips.helpers import is_row, lies_in
from suretrips.plans import OUTSIDE, door_beats


def place_of(plan, room, beat):
    """The place of room at beat in the net of plan."""
    rooms, _, _ = plan
    return 1 + beat * rooms + room


def place_out(plan):
    """The place of out in the net of plan."""
    rooms, beats, _ = plan
    return rooms * beats + 1


def door_road(plan, door, beat):
    """The foot and the head of the road through door at beat."""
    _, _, doors = plan
    one, other, time = doors[door]
    foot = 0 if one == OUTSIDE else place_of(plan, one, beat)
    head = place_out(plan) if other == OUTSIDE else place_of(plan, other, beat + time)
    return (foot, head)


def wait_road(plan, room, beat):
    """The foot and the head of the road of those who wait in room from beat on, or stay."""
    _, beats, _ = plan
    head = place_out(plan) if beat == beats - 1 else place_of(plan, room, beat + 1)
    return (place_of(plan, room, beat), head)


def steps(plan):
    """What each road of the net of plan is, in order: ("door", door, beat), ("wait", room, beat) or ("stay", ..)."""
    rooms, beats, doors = plan
    found = [("door", door, beat) for door in range(len(doors)) for beat in range(door_beats(plan, door))]
    for room in range(rooms):
        found.extend([("wait", room, beat) for beat in range(beats - 1)])
        found.append(("stay", room, beats - 1))
    return found


def unrolled(plan):
    """The net of plan."""
    roads = [door_road(plan, number, beat) if word == "door" else wait_road(plan, number, beat)
             for word, number, beat in steps(plan)]
    return (place_out(plan) + 1, tuple(roads))


def first_road(plan, door):
    """How many roads stand ahead of those through door; of all doors if door is how many there are."""
    return sum([door_beats(plan, ahead) for ahead in range(door)])


def road_of(plan, door, beat):
    """The number of the road through door at beat."""
    if beat >= door_beats(plan, door):
        raise Unfit()
    return first_road(plan, door) + beat


def wait_of(plan, room, beat):
    """The number of the road of those who wait in room from beat on, or stay."""
    _, beats, doors = plan
    return first_road(plan, len(doors)) + room * beats + beat


def is_counts_of_door(plan, door, value):
    """Whether value is a tuple of a count for each road through door."""
    return is_row(value, door_beats(plan, door)) and all([lies_in(count, 0, MAX_COUNT) for count in value])


def waiting(plan, counts):
    """How many wait, or stay, in each room from each beat on, as the roads tell it; below 0 where they lack."""
    rooms, beats, _ = plan
    # These are the roads of doors alone, which stand ahead of all others.
    much = surpluses(unrolled(plan), together(counts))
    waits = []
    for room in range(rooms):
        there = 0
        for beat in range(beats):
            there += much[place_of(plan, room, beat)]
            waits.append(there)
    return waits


def together(counts):
    """The counts of all doors in one list."""
    return [count for part in counts for count in part]


def counts_error(plan, value):
    """What is wrong with value as counts of plan; None if nothing is."""
    rooms, beats, doors = plan
    if not is_row(value, len(doors)):
        return "form"
    for door, part in enumerate(value):
        if not is_counts_of_door(plan, door, part):
            return ("door", door)
    waits = waiting(plan, value)
    for beat in range(beats):
        for room in range(rooms):
            if waits[room * beats + beat] < 0:
                return ("lack", room, beat)
    return None


def tally_of_plan(plan, counts):
    """The tally of the net of plan that has counts at the doors."""
    error = counts_error(plan, counts)
    if error is not None:
        raise BadTally(error)
    waits = waiting(plan, counts)
    if max(waits) > MAX_COUNT:
        raise TooMany(MAX_COUNT)
    return tuple(together(counts) + waits)


def counts_of(plan, tally):
    """The counts at the doors of plan that tally, one of its net, has."""
    _, _, doors = plan
    parts = []
    for door in range(len(doors)):
        begin = first_road(plan, door)
        parts.append(tally[begin:begin + door_beats(plan, door)])
    return tuple(parts)


def told_back(plan, trip):
    """For each road of trip what it is: a door, waiting, or staying, and at which beat."""
    told = steps(plan)
    return tuple([told[road] for road in trip])
