"""The texts of tallies."""

from suretrips.errors import BadTally, BadText
from suretrips.helpers import number_end, sign_end
from suretrips.tallies import tally_error

COUNT_FIGURES = 31


def tally_text(tally):
    """The text of tally."""
    return " ".join([str(count) for count in tally])


def read_tally(net, value):
    """The tally of net of which value is the text."""
    if not isinstance(value, str):
        raise BadText(0)
    end = number_end(value, 0, COUNT_FIGURES)
    counts = [int(value[:end])]
    while end < len(value):
        start = sign_end(value, end, " ")
        end = number_end(value, start, COUNT_FIGURES)
        counts.append(int(value[start:end]))
    tally = tuple(counts)
    error = tally_error(net, tally)
    if error is not None:
        raise BadTally(error)
    return tally
