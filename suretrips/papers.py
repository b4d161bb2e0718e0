"""Papers: explanations with the least and the greatest number, and bounds that show that no number is beyond."""

from suretrips.answering import flow_behind, flow_past, flow_touching, flow_untouched, least, most, one_ahead
from suretrips.anynumber import with_number
from suretrips.explaining import explanation_error
from suretrips.helpers import is_ascending, is_integer, is_row
from suretrips.questions import taken
from suretrips.stretches import least_along
from suretrips.tallies import total


def pair_of(net, question):
    """The roads of a "both" of which one is ahead, this one first; None of other questions."""
    return one_ahead(net, question[1], question[2]) if question[0] == "both" else None


def leaving(net, places):
    """The roads that leave places."""
    _, roads = net
    return [road for road, (foot, head) in enumerate(roads) if foot in places and head not in places]


def counts_without(tally, some, others):
    """The counts of all roads of some that are not in others, together."""
    return sum([tally[road] for road in some if road not in others])


def shown_of_touch(net, tally, marks, places):
    """What places show of those who touch a road of marks."""
    many, roads = net
    if 0 not in places:
        return (None, None)
    past = counts_without(tally, leaving(net, places), marks)
    low = None if many - 1 in places else total(net, tally) - past
    return (low, past + sum([tally[road] for road in marks if roads[road][0] in places]))


def shown_of_both(net, tally, ahead, behind, places):
    """What places show of those who use both roads."""
    _, roads = net
    if roads[behind][0] in places:
        return (None, None)
    out = leaving(net, places)
    low = tally[behind] - counts_without(tally, out, (ahead,)) if 0 in places else None
    return (low, counts_without(tally, out, ()) if roads[ahead][1] in places else None)


def shown(net, tally, question, places):
    """A number that question takes at least, and one that it takes at most, as places show; None where they do not."""
    if question[0] == "touch":
        return shown_of_touch(net, tally, question[1], places)
    pair = pair_of(net, question)
    return (None, None) if pair is None else shown_of_both(net, tally, pair[0], pair[1], places)


def fixed_roads(net, question):
    """The roads of which none has a count less than a number that question takes."""
    if question[0] == "along":
        return question[1]
    if question[0] == "both" and question[1] == question[2]:
        return question[1:2]
    return pair_of(net, question) or ()


def bound_below(net, tally, question, number):
    """What shows that question never takes less than number, the least one."""
    if number == 0:
        return None
    if question[0] == "touch":
        _, _, cut = flow_untouched(net, tally, question[1])
        return ("places", cut)
    pair = pair_of(net, question)
    if pair is None:
        return None
    _, _, cut = flow_past(net, tally, pair[0], net[1][pair[1]][0])
    return ("places", cut)


def bound_above(net, tally, question, number):
    """What shows that question never takes more than number, the greatest one."""
    if question[0] == "touch":
        _, _, cut = flow_touching(net, tally, question[1])
        return ("places", cut)
    roads = fixed_roads(net, question)
    for road in roads:
        if tally[road] == number:
            return ("road", road)
    if not roads:
        return None
    _, _, cut = flow_behind(net, tally, roads[0], net[1][roads[1]][0])
    return ("places", cut)


def paper(net, tally, question):
    """A paper of question."""
    few, many = least(net, tally, question), most(net, tally, question)
    return ((few, with_number(net, tally, question, few), bound_below(net, tally, question, few)),
            (many, with_number(net, tally, question, many), bound_above(net, tally, question, many)))


def is_bound_below(net, tally, question, number, bound):
    """Whether bound shows that question never takes less than number."""
    if question[0] == "along":
        return bound is None and number == least_along(net, tally, question[1])
    if number == 0 or (question[0] == "both" and question[1] == question[2]):
        return bound is None
    if not is_row(bound, 2) or bound[0] != "places" or not is_ascending(bound[1], net[0]):
        return False
    low, _ = shown(net, tally, question, bound[1])
    return low == number


def is_bound_above(net, tally, question, number, bound):
    """Whether bound shows that question never takes more than number."""
    roads = fixed_roads(net, question)
    if bound is None:
        return question[0] == "both" and roads == ()
    if not is_row(bound, 2):
        return False
    word, told = bound
    if word == "road":
        return is_integer(told) and told in roads and tally[told] == number
    if word != "places" or not is_ascending(told, net[0]):
        return False
    _, high = shown(net, tally, question, told)
    return high == number


def told_error(net, tally, question, triple):
    """The word for what is wrong with the explanation or the number of triple; None if nothing is."""
    number, explanation, _ = triple
    if explanation_error(net, tally, explanation) is not None:
        return "explanation"
    return None if is_integer(number) and number == taken(question, explanation) else "number"


def paper_error(net, tally, question, value):
    """What is wrong with value as a paper of question; None if nothing is."""
    if not is_row(value, 2) or not all([is_row(triple, 3) for triple in value]):
        return "form"
    few, many = value
    word = told_error(net, tally, question, few)
    if word is not None:
        return ("least", word)
    if not is_bound_below(net, tally, question, few[0], few[2]):
        return ("least", "bound")
    word = told_error(net, tally, question, many)
    if word is not None:
        return ("greatest", word)
    if not is_bound_above(net, tally, question, many[0], many[2]):
        return ("greatest", "bound")
    return None
