"""Sayings about explanations: whether they hold in all, in some or in none; and what the asks of a book come to.

An explanation has the known trips exactly if it is these and an explanation of the rest, put together.
"""

from suretrips.answering import least, most
from suretrips.anynumber import with_number
from suretrips.bounds import MAX_COUNT, MAX_NOTS
from suretrips.errors import Unfit
from suretrips.explaining import settled, tally_of
from suretrips.fillings import narrowed
from suretrips.following import follows
from suretrips.helpers import is_row, lies_in
from suretrips.questions import question_error, taken
from suretrips.stretches import sure_stretches
from suretrips.tallies import less


def within_nots(value):
    """What stands within the "not"s of value, of which MAX_NOTS at most are looked at, and whether it is turned."""
    inner, turned = value, False
    for _ in range(MAX_NOTS):
        if is_row(inner, 2) and inner[0] == "not":
            inner, turned = inner[1], not turned
    return inner, turned


def saying_error(net, value):
    """What is wrong with value as a saying about net; None if nothing is."""
    _, roads = net
    inner, _ = within_nots(value)
    if not is_row(inner, 3) or inner[0] not in ("least", "most", "follow"):
        return "form"
    word, first, second = inner
    if word == "follow":
        return None if all([lies_in(road, 0, len(roads) - 1) for road in (first, second)]) else ("road",)
    if not lies_in(first, 0, MAX_COUNT):
        return ("number",)
    error = question_error(net, second)
    return None if error is None else ("question", error)


def holds(saying, explanation):
    """Whether saying holds in explanation."""
    (word, first, second), turned = within_nots(saying)
    if word == "follow":
        is_so = all([second in trip for trip, _ in explanation if first in trip])
    elif word == "least":
        is_so = taken(second, explanation) >= first
    else:
        is_so = taken(second, explanation) <= first
    return is_so != turned


def as_least(tally, saying):
    """A question and a number: saying holds where so many or more are taken, or, if it is turned, where fewer are."""
    (word, first, second), turned = within_nots(saying)
    if word == "follow":
        return ("both", first, second), tally[first], turned
    if word == "most":
        return second, first + 1, not turned
    return second, first, turned


def rest_of(net, tally, known):
    """What is left of tally to be explained besides the known trips."""
    return less(tally, tally_of(net, known))


def least_known(net, tally, known, question):
    """The least number of trips that question takes, over the explanations that have the known trips."""
    return taken(question, known) + least(net, rest_of(net, tally, known), question)


def most_known(net, tally, known, question):
    """The greatest number of trips that question takes, over the explanations that have the known trips."""
    return taken(question, known) + most(net, rest_of(net, tally, known), question)


def settled_known(net, tally, known):
    """Whether there is just one explanation that has the known trips."""
    return settled(net, rest_of(net, tally, known))


def follows_known(net, tally, known, a, b):
    """Whether each trip past a passes b, too, in all explanations that have the known trips."""
    rest = rest_of(net, tally, known)
    if not holds(("follow", a, b), known):
        return False
    return rest[a] == 0 or follows(net, rest, a, b)


def verdict_known(net, tally, known, saying):
    """Whether saying holds in all explanations that have the known trips, in some or in none."""
    question, number, turned = as_least(tally, saying)
    if number <= least_known(net, tally, known, question):
        return "never" if turned else "surely"
    if number > most_known(net, tally, known, question):
        return "surely" if turned else "never"
    return "perhaps"


def verdict(net, tally, saying):
    """Whether saying holds in all explanations of tally ("surely"), in some ("perhaps") or in none ("never")."""
    return verdict_known(net, tally, (), saying)


def witnesses(net, tally, saying):
    """An explanation in which saying holds and one in which it does not, each None if there is none."""
    question, number, turned = as_least(tally, saying)
    low, high = least(net, tally, question), most(net, tally, question)
    enough = with_number(net, tally, question, high) if high >= number else None
    fewer = with_number(net, tally, question, low) if low < number else None
    return (fewer, enough) if turned else (enough, fewer)


def only_tally(net, holes):
    """The one tally of net that is within holes."""
    ranges = narrowed(net, holes)
    if any([low != high for low, high in ranges]):
        raise Unfit()
    return tuple([low for low, _ in ranges])


def followers_text(names, net, tally, known, a):
    """The names of the roads that each trip past the road a passes, in all explanations that have the known trips."""
    others = [road for road in range(len(names)) if tally[a] > 0 and road != a]
    return " ".join([names[road] for road in others if follows_known(net, tally, known, a, road)]) or "-"


def sure_text(names, net, tally):
    """The names of the roads of all sure stretches."""
    return ", ".join([" ".join([names[road] for road in stretch]) for stretch in sure_stretches(net, tally)]) or "-"


def answer_text(names, net, tally, known, ask):
    """The text that answers ask."""
    word, *told = ask
    if word == "sure":
        return sure_text(names, net, tally)
    if word == "followers":
        return followers_text(names, net, tally, known, told[0])
    if word == "say":
        return verdict_known(net, tally, known, told[0])
    if word == "least":
        return str(least_known(net, tally, known, told[0]))
    return str(most_known(net, tally, known, told[0]))


def answered(book):
    """The texts that answer the asks of book."""
    _, names, net, holes, known, asks = book
    tally = only_tally(net, holes)
    # Also where nothing is asked the known trips have to fit: otherwise this raises.
    rest_of(net, tally, known)
    return tuple([answer_text(names, net, tally, known, ask) for ask in asks])
