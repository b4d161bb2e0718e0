"""What several modules need: kinds of values, the reading of texts, and rooms through which flows are sent."""

from suretrips.errors import BadText

FIGURES = "0123456789"


def is_integer(value):
    """Whether value is an integer: True and False are none."""
    return isinstance(value, int) and not isinstance(value, bool)


def lies_in(value, least, greatest):
    """Whether value is an integer from least to greatest."""
    return is_integer(value) and least <= value <= greatest


def is_row(value, many):
    """Whether value is a tuple of many items."""
    return isinstance(value, tuple) and len(value) == many


def is_answer(value):
    """Whether value is a triple of an integer or None, a tuple, and a tuple."""
    if not is_row(value, 3):
        return False
    first, second, third = value
    return (first is None or is_integer(first)) and isinstance(second, tuple) and isinstance(third, tuple)


def is_ascending(value, limit):
    """Whether value is an ascending tuple of integers from 0 to limit less 1."""
    if not isinstance(value, tuple):
        return False
    ahead = -1
    for item in value:
        if not lies_in(item, ahead + 1, limit - 1):
            return False
        ahead = item
    return True


def number_end(text, start, most):
    """Where the number of at most so many figures ends that begins at start in text."""
    if start >= len(text) or text[start] not in FIGURES:
        raise BadText(start)
    end = start + 1
    if text[start] == "0":
        return end
    while end < len(text) and end - start < most and text[end] in FIGURES:
        end += 1
    return end


def sign_end(text, start, sign):
    """Where the one sign ends that has to stand at start in text."""
    if text[start:start + 1] != sign:
        raise BadText(start)
    return start + 1


class Rooms:
    """Arcs between places, and what can still be sent along each; the arc k ^ 1 is the arc k the other way.

    Beside so many places there are two more, source and sink, for what comes from without and goes there.
    """

    def __init__(self, many):
        self.source = many
        self.sink = many + 1
        self.arcs_from = [[] for _ in range(many + 2)]
        self.heads = []
        self.left = []

    def link(self, foot, head, ahead, back):
        """Lay an arc from foot to head with the room ahead, and the one that goes back with the room back."""
        self.arcs_from[foot].append(len(self.heads))
        self.arcs_from[head].append(len(self.heads) + 1)
        self.heads.extend([head, foot])
        self.left.extend([ahead, back])

    def reached(self, source):
        """By which arc one comes to each place that is reached from source along arcs with room."""
        arcs = {source: None}
        queue = [source]
        at = 0
        while at < len(queue):
            place = queue[at]
            for arc in self.arcs_from[place]:
                head = self.heads[arc]
                if self.left[arc] > 0 and head not in arcs:
                    arcs[head] = arc
                    queue.append(head)
            at += 1
        return arcs

    def way(self, source, sink):
        """The arcs of a way with room that has the fewest arcs, the last one first; [] if there is none."""
        came = self.reached(source)
        arcs = []
        arc = came.get(sink)
        while arc is not None:
            arcs.append(arc)
            arc = came[self.heads[arc ^ 1]]
        return arcs

    def push(self, source, sink):
        """Send as much as can be from source to sink, another place, and return how much this is."""
        sent = 0
        # Only with shortest ways the steps do not hang on how great the rooms are.
        arcs = self.way(source, sink)
        while arcs:
            part = min([self.left[arc] for arc in arcs])
            for arc in arcs:
                self.left[arc] -= part
                self.left[arc ^ 1] += part
            sent += part
            arcs = self.way(source, sink)
        return sent

    def even(self, surpluses):
        """Send what is too much at places to where it lacks, as far as can be, and return whether all is even."""
        wanted = 0
        for place, much in enumerate(surpluses):
            if much > 0:
                self.link(self.source, place, much, 0)
                wanted += much
            else:
                self.link(place, self.sink, -much, 0)
        return self.push(self.source, self.sink) == wanted

    def side(self):
        """The places that are reached from source, ascending."""
        return tuple(sorted([place for place in self.reached(self.source) if place < self.source]))
