"""The errors of the package: each keeps what it is made with, just as it was passed."""


class TripError(ValueError):
    """What all errors of the package are."""


class Unfit(TripError):
    """What was asked for does not fit what there is."""


class BadText(TripError):
    """A text has not the form that is wanted: place is where it goes wrong."""

    def __init__(self, place):
        TripError.__init__(self, f"the text goes wrong at the place {place}")
        self.place = place


class BadNet(TripError):
    """What was told is no net: error says why not."""

    def __init__(self, error):
        TripError.__init__(self, f"this is no net: {error}")
        self.error = error


class BadTally(TripError):
    """What was told is no tally: error says why not."""

    def __init__(self, error):
        TripError.__init__(self, f"this is no tally: {error}")
        self.error = error


class TooMany(TripError):
    """There is more of something than limit."""

    def __init__(self, limit):
        TripError.__init__(self, f"these are more than {limit}")
        self.limit = limit


class NoName(TripError):
    """Nothing of the wanted sort has the name that was given."""

    def __init__(self, given):
        TripError.__init__(self, f"nothing of this sort is called {given}")
        self.given = given


class Taken(TripError):
    """The name that was given is taken."""

    def __init__(self, given):
        TripError.__init__(self, f"something is called {given} already")
        self.given = given


class Ring(TripError):
    """Roads lead round: names are those of the places on the ring."""

    def __init__(self, names):
        TripError.__init__(self, f"roads lead round by {names}")
        self.names = names


class NothingToUndo(TripError):
    """There is no edit to take back, or to do again."""


class TooManyEdits(TripError):
    """As many edits stand as may."""


class BadLog(TripError):
    """A log cannot be done: place is that of its first item that cannot."""

    def __init__(self, place):
        TripError.__init__(self, f"the log goes wrong at the place {place}")
        self.place = place
