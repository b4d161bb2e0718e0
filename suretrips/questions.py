"""Questions: which trips they take."""

from suretrips.helpers import is_ascending, is_row, lies_in
from suretrips.stretches import stretch_error


def has_form(value):
    """Whether value is a tuple of a question's word and as many further items as this wants."""
    if is_row(value, 2):
        return value[0] in ("along", "touch")
    return is_row(value, 3) and value[0] == "both"


def question_error(net, value):
    """What is wrong with value as a question of net; None if nothing is."""
    _, roads = net
    if not has_form(value):
        return "form"
    word, *told = value
    if word == "along":
        error = stretch_error(net, told[0])
        return None if error is None else ("stretch", error)
    if word == "touch":
        return None if is_ascending(told[0], len(roads)) and told[0] != () else "marks"
    return None if all([lies_in(road, 0, len(roads) - 1) for road in told]) else "road"


def goes_along(stretch, trip):
    """Whether the roads of stretch stand in trip one behind another."""
    if stretch[0] not in trip:
        return False
    # No road stands in a trip twice.
    at = trip.index(stretch[0])
    return trip[at:at + len(stretch)] == stretch


def takes(question, trip):
    """Whether question takes trip."""
    word, *told = question
    if word == "along":
        return goes_along(told[0], trip)
    if word == "touch":
        return any([road in told[0] for road in trip])
    return all([road in trip for road in told])


def taken(question, told):
    """How many trips of told, each with its times, question takes."""
    return sum([times for trip, times in told if takes(question, trip)])
