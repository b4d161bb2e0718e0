"""Plans of rooms, doors and beats, and their texts."""

from suretrips.bounds import MAX_BEATS, MAX_PLACES, MAX_ROADS, MAX_ROOMS
from suretrips.errors import BadNet, BadText
from suretrips.helpers import is_row, lies_in, number_end, sign_end
from suretrips.nets import is_road_tuple

OUTSIDE = -1
PLAN_FIGURES = 2


def is_door(rooms, value):
    """Whether value is a door of a plan of so many rooms."""
    if not is_row(value, 3) or not all([lies_in(end, OUTSIDE, rooms - 1) for end in value[:2]]):
        return False
    one, other, time = value
    if one == other:
        return False
    if OUTSIDE in (one, other):
        return lies_in(time, 0, 0)
    return lies_in(time, 1, MAX_BEATS)


def door_beats(plan, door):
    """At how many beats, from the first one on, who goes through door comes to the other side within the beats."""
    _, beats, doors = plan
    _, _, time = doors[door]
    return max(0, beats - time)


def plan_error(value):
    """What is wrong with value as a plan; None if nothing is."""
    if not is_row(value, 3) or not is_road_tuple(value[2]):
        return "form"
    rooms, beats, doors = value
    if not lies_in(rooms, 1, MAX_ROOMS):
        return "rooms"
    if not lies_in(beats, 1, MAX_BEATS):
        return "beats"
    for place, door in enumerate(doors):
        if not is_door(rooms, door):
            return ("door", place)
    if rooms * beats + 2 > MAX_PLACES:
        return "places"
    roads = sum([door_beats(value, door) for door in range(len(doors))]) + rooms * beats
    return "roads" if roads > MAX_ROADS else None


def door_text(door):
    """The text of door."""
    one, other, time = door
    if one == OUTSIDE:
        return f"in>{other}"
    return f"{one}>out" if other == OUTSIDE else f"{one}>{other}*{time}"


def plan_text(plan):
    """The text of plan."""
    rooms, beats, doors = plan
    return f"{rooms} {beats}:" + "".join([f" {door_text(door)}" for door in doors])


def read_plan(value):
    """The plan of which value is the text."""
    if not isinstance(value, str):
        raise BadText(0)
    rooms, end = read_figures(value, 0)
    beats, end = read_figures(value, sign_end(value, end, " "))
    end = sign_end(value, end, ":")
    doors = []
    while not doors or end < len(value):
        door, end = read_door(value, sign_end(value, end, " "))
        doors.append(door)
    plan = (rooms, beats, tuple(doors))
    error = plan_error(plan)
    if error is not None:
        raise BadNet(error)
    return plan


def read_figures(text, start):
    """The number that begins at start in text, and where it ends."""
    end = number_end(text, start, PLAN_FIGURES)
    return int(text[start:end]), end


def word_end(text, start, word):
    """Where word ends that has to stand at start in text."""
    end = start
    for sign in word:
        end = sign_end(text, end, sign)
    return end


def read_door(text, start):
    """The door that text tells from start on, and where it ends."""
    if text[start:start + 1] == "i":
        room, end = read_figures(text, word_end(text, start, "in>"))
        return (OUTSIDE, room, 0), end
    room, end = read_figures(text, start)
    begin = sign_end(text, end, ">")
    if text[begin:begin + 1] == "o":
        return (room, OUTSIDE, 0), word_end(text, begin, "out")
    other, end = read_figures(text, begin)
    time, end = read_figures(text, sign_end(text, end, "*"))
    return (room, other, time), end
