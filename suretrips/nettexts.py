"""The texts of nets."""

from suretrips.errors import BadNet, BadText
from suretrips.helpers import number_end, sign_end
from suretrips.nets import net_error

PLACE_FIGURES = 2


def net_text(net):
    """The text of net."""
    many, roads = net
    return f"{many}:" + "".join([f" {foot}>{head}" for foot, head in roads])


def read_net(value):
    """The net of which value is the text."""
    if not isinstance(value, str):
        raise BadText(0)
    end = number_end(value, 0, PLACE_FIGURES)
    many = int(value[:end])
    end = sign_end(value, end, ":")
    roads = []
    while not roads or end < len(value):
        road, end = read_road(value, end)
        roads.append(road)
    net = (many, tuple(roads))
    error = net_error(net)
    if error is not None:
        raise BadNet(error)
    return net


def read_road(text, start):
    """The road that text tells from the blank at start on, and where it ends."""
    begin = sign_end(text, start, " ")
    end = number_end(text, begin, PLACE_FIGURES)
    foot = int(text[begin:end])
    begin = sign_end(text, end, ">")
    end = number_end(text, begin, PLACE_FIGURES)
    return (foot, int(text[begin:end])), end
