"""What follows from a passing: which roads each trip past a road passes, too."""

from suretrips.bounds import MAX_SOME
from suretrips.errors import Unfit
from suretrips.helpers import is_ascending, is_row
from suretrips.nets import places_ahead, places_behind, trip_at, trip_count, trip_error


def counted_but(net, tally, shut):
    """The numbers of the roads of net that are counted, but the road shut, ascending."""
    _, roads = net
    return [road for road in range(len(roads)) if tally[road] > 0 and road != shut]


def part_of(net, kept):
    """The net of those roads of net alone whose numbers are kept; it may have no road at all."""
    many, roads = net
    return (many, tuple([roads[road] for road in kept]))


def roads_past(net, tally, a, shut):
    """The counted roads, but shut, that stand in ways past a along such roads, ascending."""
    _, roads = net
    kept = counted_but(net, tally, shut)
    foot, head = roads[a]
    part = part_of(net, kept)
    ahead, behind = places_ahead(part, foot), places_behind(part, head)
    # No place is both ahead of a and behind it, so no trip of these roads misses a.
    return [road for road in kept if road == a or roads[road][1] in ahead or roads[road][0] in behind]


def trips_past(net, tally, a, shut, most):
    """How many counted trips pass a and not shut, and the first of them, at most so many."""
    kept = roads_past(net, tally, a, shut)
    part = part_of(net, kept)
    many_trips = trip_count(part)
    first = [trip_at(part, number) for number in range(min(many_trips, most))]
    return many_trips, tuple([tuple([kept[road] for road in trip]) for trip in first])


def refuse_uncounted(tally, a):
    """Unfit if the road a is not counted."""
    if tally[a] == 0:
        raise Unfit()


def follows(net, tally, a, b):
    """Whether a is followed by b: whether each trip past a passes b, in every explanation."""
    refuse_uncounted(tally, a)
    return avoider(net, tally, a, b) is None


def followers(net, tally, a):
    """All roads but a by which a is followed, ascending."""
    refuse_uncounted(tally, a)
    return tuple([road for road in counted_but(net, tally, a) if follows(net, tally, a, road)])


def apart(net, tally, a, b):
    """Whether no trip of any explanation passes both a and b."""
    _, roads = net
    if tally[a] == 0 or tally[b] == 0:
        return True
    part = part_of(net, counted_but(net, tally, None))
    one_first = roads[b][0] in places_behind(part, roads[a][1])
    other_first = roads[a][0] in places_behind(part, roads[b][1])
    return a != b and not one_first and not other_first


def ways_past(net, tally, a):
    """How many counted trips pass a, and the first MAX_SOME of them."""
    if tally[a] == 0:
        return (0, ())
    return trips_past(net, tally, a, None, MAX_SOME)


def lone(net, tally, few):
    """All pairs of a road that at most few passed, but somebody, and a road by which it is followed."""
    found = []
    for road, count in enumerate(tally):
        if 1 <= count <= few:
            found.extend([(road, other) for other in followers(net, tally, road)])
    return tuple(found)


def avoider(net, tally, a, b):
    """A counted trip that passes a and not b; None if there is none."""
    if a == b:
        return None
    _, first = trips_past(net, tally, a, b, 1)
    return first[0] if first else None


def avoider_error(net, tally, a, b, value):
    """What is wrong with value as an avoider; None if nothing is."""
    if trip_error(net, value) is not None:
        return "trip"
    if 0 in [tally[road] for road in value]:
        return "count"
    if a not in value:
        return "past"
    return "avoids" if b in value else None


def barrier(net, tally, a, b):
    """A barrier that shows that a is followed by b; None if it is not."""
    many, roads = net
    if a == b:
        return ("self",)
    foot, head = roads[a]
    part = part_of(net, counted_but(net, tally, b))
    before, behind = places_behind(part, 0), places_behind(part, head)
    if foot not in before:
        return ("before", tuple(sorted(before)))
    if many - 1 not in behind:
        return ("behind", tuple(sorted(behind)))
    return None


def has_barrier_form(net, value):
    """Whether value is a pair of a barrier's word and an ascending tuple of places of net."""
    many, _ = net
    return is_row(value, 2) and value[0] in ("before", "behind") and is_ascending(value[1], many)


def barrier_error(net, tally, a, b, value):
    """What is wrong with value as a barrier; None if nothing is."""
    many, roads = net
    if value == ("self",):
        return None if a == b else "self"
    if not has_barrier_form(net, value):
        return "form"
    word, places = value
    foot, head = roads[a]
    begin, end = (0, foot) if word == "before" else (head, many - 1)
    if begin not in places:
        return "begin"
    if end in places:
        return "end"
    for road in counted_but(net, tally, b):
        if roads[road][0] in places and roads[road][1] not in places:
            return ("road", road)
    return None
