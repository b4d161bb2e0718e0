"""Desks: tallies that are kept up trip by trip, with trips that are known, edits, undo and redo."""

from suretrips.bounds import MAX_COUNT, MAX_EDITS
from suretrips.errors import BadLog, BadNet, BadTally, NothingToUndo, TooManyEdits, TripError, Unfit
from suretrips.explaining import tally_of
from suretrips.helpers import is_row, lies_in
from suretrips.nets import net_error, trip_error
from suretrips.questions import question_error
from suretrips.tallies import less, put_together, tally_error
from suretrips.verdicts import follows_known, least_known, most_known, rest_of, settled_known


def counts_of_trip(net, trip, times):
    """The counts that trip makes so many times; Unfit if one of both is not such."""
    if trip_error(net, trip) is not None or not lies_in(times, 1, MAX_COUNT):
        raise Unfit()
    return tally_of(net, ((trip, times),))


def refuse_question(net, question):
    """Unfit if question is no question of net."""
    if question_error(net, question) is not None:
        raise Unfit()


def changed(known, trip, times):
    """The known trips where trip is known so many times more, or fewer; Unfit if that would be below 0."""
    others = [pair for pair in known if pair[0] != trip]
    many = times + sum([often for one, often in known if one == trip])
    if many < 0:
        raise Unfit()
    return tuple(sorted(others + [(trip, many)])) if many > 0 else tuple(others)


class Desk:
    """A tally of a net, known trips among those that were counted, and the edits that led to them."""

    def __init__(self, net):
        error = net_error(net)
        if error is not None:
            raise BadNet(error)
        _, roads = net
        self._net = net
        # Tally, known trips and log at first and behind each edit; those of edits that were taken back come last.
        self._states = [((0,) * len(roads), (), ())]
        self._version = 0

    @property
    def net(self):
        """The net whose trips are counted."""
        return self._net

    @property
    def tally(self):
        """How many were counted at each road."""
        return self._states[self._version][0]

    @property
    def known(self):
        """The known trips, each with its times."""
        return self._states[self._version][1]

    @property
    def version(self):
        """How many edits stand."""
        return self._version

    @property
    def log(self):
        """The edits that stand."""
        return self._states[self._version][2]

    def __eq__(self, other):
        return isinstance(other, Desk) and self.net == other.net and self.log == other.log

    def rest(self):
        """The tally less what the known trips count."""
        return rest_of(self.net, self.tally, self.known)

    def _done(self, edit, tally, known):
        """Let edit stand, which leads to tally and known, and return the new version."""
        if self._version == MAX_EDITS:
            raise TooManyEdits()
        self._states = self._states[:self._version + 1] + [(tally, known, self.log + (edit,))]
        self._version += 1
        return self._version

    def see(self, trip, times):
        """So many more went this trip."""
        counts = counts_of_trip(self.net, trip, times)
        return self._done(("see", trip, times), put_together(self.tally, counts), self.known)

    def take_back(self, trip, times):
        """So many fewer went this trip."""
        counts = counts_of_trip(self.net, trip, times)
        # This refuses what the known trips need.
        less(self.rest(), counts)
        return self._done(("take_back", trip, times), less(self.tally, counts), self.known)

    def know(self, trip, times):
        """So many of those that were counted are known to have gone this trip."""
        # This refuses what the tally has not besides the trips that are known yet.
        less(self.rest(), counts_of_trip(self.net, trip, times))
        return self._done(("know", trip, times), self.tally, changed(self.known, trip, times))

    def doubt(self, trip, times):
        """So many of those that are known to have gone this trip are no longer known."""
        counts_of_trip(self.net, trip, times)
        return self._done(("doubt", trip, times), self.tally, changed(self.known, trip, -times))

    def put(self, tally):
        """The tally becomes this one."""
        error = tally_error(self.net, tally)
        if error is not None:
            raise BadTally(error)
        # This refuses a tally that has not what the known trips count.
        rest_of(self.net, tally, self.known)
        return self._done(("put", tally), tally, self.known)

    def undo(self):
        """Take back the last edit that stands, and return the version then."""
        if self._version == 0:
            raise NothingToUndo()
        self._version -= 1
        return self._version

    def redo(self):
        """Do again the edit that was taken back last, and return the version then."""
        if self._version == len(self._states) - 1:
            raise NothingToUndo()
        self._version += 1
        return self._version

    def least(self, question):
        """The least number of trips that question takes, over all explanations that have the known trips."""
        refuse_question(self.net, question)
        return least_known(self.net, self.tally, self.known, question)

    def most(self, question):
        """The greatest number of trips that question takes, over all explanations that have the known trips."""
        refuse_question(self.net, question)
        return most_known(self.net, self.tally, self.known, question)

    def settled(self):
        """Whether there is just one explanation that has the known trips."""
        return settled_known(self.net, self.tally, self.known)

    def follows(self, a, b):
        """Whether each trip past a passes b, too, in all explanations that have the known trips."""
        _, roads = self.net
        if not all([lies_in(road, 0, len(roads) - 1) for road in (a, b)]) or self.tally[a] == 0:
            raise Unfit()
        return follows_known(self.net, self.tally, self.known, a, b)

    def copy(self):
        """A desk like this one, apart from it from now on."""
        other = Desk(self.net)
        other._states = list(self._states)
        other._version = self._version
        return other


def do_edit(desk, edit):
    """Do edit, as a log tells it, at desk; Unfit if it is none."""
    if is_row(edit, 2) and edit[0] == "put":
        desk.put(edit[1])
    elif is_row(edit, 3) and edit[0] == "see":
        desk.see(edit[1], edit[2])
    elif is_row(edit, 3) and edit[0] == "take_back":
        desk.take_back(edit[1], edit[2])
    elif is_row(edit, 3) and edit[0] == "know":
        desk.know(edit[1], edit[2])
    elif is_row(edit, 3) and edit[0] == "doubt":
        desk.doubt(edit[1], edit[2])
    else:
        raise Unfit()


def desk_behind(net, value):
    """The desk of net at which all edits of value were done."""
    desk = Desk(net)
    if not isinstance(value, tuple):
        raise BadLog(0)
    for place, edit in enumerate(value):
        try:
            do_edit(desk, edit)
        except TripError:
            raise BadLog(place) from None
    return desk
