"""Papers, and what places show: [G1] to [G3], and of [G5] what it says of them."""

import random
import unittest

from suretrips.answering import least, most
from suretrips.anynumber import with_number
from suretrips.explaining import explained, explanation_error
from suretrips.nets import leads
from suretrips.papers import paper, paper_error, shown
from suretrips.questions import taken
from suretrips.stretches import excess
from tests.common import (KINDS, NO_INTEGERS, TOP, all_questions, answer, asked_greatly, asked_often, chain, check_calls,
                          shuffled, some_explained, subsets)

NET, TALLY = (5, ((0, 1), (0, 1), (1, 2), (1, 3), (2, 3), (2, 4), (3, 4))), (5, 3, 6, 2, 4, 2, 6)
DOORS, COUNTS = (3, ((0, 1), (0, 1), (1, 2), (1, 2))), (3, 2, 4, 1)
FEW, MANY = (((0, 2), 2), ((0, 3), 1), ((1, 2), 2)), (((0, 2), 3), ((1, 2), 1), ((1, 3), 1))
LOW, HIGH = (2, FEW, ("places", (0,))), (3, MANY, ("road", 0))


def put_in_order(net, question):
    """The two roads of a "both" with the one that is ahead first; None of other questions, or if none is."""
    if question[0] != "both":
        return None
    _, one, other = question
    if leads(net, one, other):
        return (one, other)
    return (other, one) if leads(net, other, one) else None


def own_shown(net, tally, question, places):
    """What shown has to tell, word by word as in the document."""
    many, roads = net
    leaving = [road for road, (foot, head) in enumerate(roads) if foot in places and head not in places]
    low, high = None, None
    if question[0] == "touch":
        marks = question[1]
        everybody = sum([count for count, (foot, _) in zip(tally, roads) if foot == 0])
        if 0 in places and many - 1 not in places:
            low = everybody - sum([tally[road] for road in leaving if road not in marks])
        if 0 in places:
            high = sum([tally[road] for road in marks if roads[road][0] in places])
            high += sum([tally[road] for road in leaving if road not in marks])
        return (low, high)
    pair = put_in_order(net, question)
    if pair is not None:
        one, other = pair
        if 0 in places and roads[other][0] not in places:
            low = tally[other] - sum([tally[road] for road in leaving if road != one])
        if roads[one][1] in places and roads[other][0] not in places:
            high = sum([tally[road] for road in leaving])
    return (low, high)


def is_places(net, value):
    return (isinstance(value, tuple) and all([type(place) is int and 0 <= place < net[0] for place in value])
            and list(value) == sorted(set(value)))


def own_error(net, tally, question, value):
    """What paper_error has to tell of a pair of triples."""
    (few, few_told, below), (many, many_told, above) = value
    alike = question[0] == "both" and question[1] == question[2]
    if explanation_error(net, tally, few_told) is not None:
        return ("least", "explanation")
    if type(few) is not int or few != taken(question, few_told):
        return ("least", "number")
    if question[0] == "along" or alike:
        wanted = max(0, excess(net, tally, question[1])) if question[0] == "along" else tally[question[1]]
        right = below is None and few == wanted
    elif few == 0:
        right = below is None
    else:
        right = (isinstance(below, tuple) and len(below) == 2 and below[0] == "places" and is_places(net, below[1])
                 and own_shown(net, tally, question, below[1])[0] == few)
    if not right:
        return ("least", "bound")
    if explanation_error(net, tally, many_told) is not None:
        return ("greatest", "explanation")
    if type(many) is not int or many != taken(question, many_told):
        return ("greatest", "number")
    pair = put_in_order(net, question)
    if above is None:
        right = question[0] == "both" and not alike and pair is None and many == 0
    elif not isinstance(above, tuple) or len(above) != 2:
        right = False
    elif above[0] == "road":
        roads = question[1] if question[0] == "along" else (question[1],) if alike else (pair or ())
        right = type(above[1]) is int and above[1] in roads and tally[above[1]] == many
    else:
        right = above[0] == "places" and is_places(net, above[1]) and own_shown(net, tally, question, above[1])[1] == many
    return None if right else ("greatest", "bound")


def spoilt(chance, net, right, value):
    """A pair of triples with something changed by chance."""
    triples = [list(value[0]), list(value[1])]
    at = chance.randrange(2)
    spot = chance.randrange(5)
    if spot == 0:
        triples[at][0] = chance.choice((value[at][0] + 1, value[at][0] - 1, value[1 - at][0], None, True, str(value[at][0])))
    elif spot == 1:
        triples[at][1] = chance.choice((chance.choice(right), value[1 - at][1], value[at][1][1:], list(value[at][1]), None))
    elif spot == 2:
        number = chance.randrange(len(right))
        triples[at][:2] = (value[at][0], right[number])
    elif spot == 3:
        places = tuple([place for place in range(net[0]) if chance.random() < 0.5])
        triples[at][2] = chance.choice((None, value[1 - at][2], ("places", places), ("places", places[::-1]), ("place", places)))
    else:
        road = chance.randrange(-1, len(net[1]) + 1)
        triples[at][2] = chance.choice((("road", road), ("road", bool(road)), ["road", road], ("road", road, 0), "road", 5))
    return (tuple(triples[0]), tuple(triples[1]))


class Shown(unittest.TestCase):

    def test_each_lot_of_places(self):
        for net, tally, right, questions in asked_often():
            for question in questions:
                few, many = least(net, tally, question), most(net, tally, question)
                for places in subsets(range(net[0])):
                    low, high = shown(net, tally, question, places)
                    self.assertEqual((low, high), own_shown(net, tally, question, places), (net, tally, question, places))
                    self.assertTrue(low is None or low <= few)
                    self.assertTrue(high is None or high >= many)

    def test_all_questions_of_one_net(self):
        for question in all_questions(NET):
            for places in subsets(range(5)):
                self.assertEqual(shown(NET, TALLY, question, places), own_shown(NET, TALLY, question, places))

    def test_places_come_just_to_the_numbers(self):
        for net, tally, right, questions in asked_often()[::2]:
            for question in questions:
                told = [shown(net, tally, question, places) for places in subsets(range(net[0]))]
                few, many = least(net, tally, question), most(net, tally, question)
                pair = put_in_order(net, question)
                if question[0] == "touch" or pair:
                    if few > 0:
                        self.assertEqual(max([low for low, _ in told if low is not None]), few)
                    counts = [tally[road] for road in pair or ()]
                    self.assertEqual(min([high for _, high in told if high is not None] + counts), many)

    def test_below_0(self):
        self.assertEqual(shown(NET, TALLY, ("touch", (0,)), (0, 1, 2)), (0, 13))
        self.assertEqual(shown(NET, TALLY, ("both", 0, 6), (0, 1)), (-2, 8))
        self.assertEqual(shown(NET, (TOP,) * 7, ("both", 0, 6), (0, 1, 2)), (-2 * TOP, 3 * TOP))

    def test_great_counts(self):
        chance = random.Random(101)
        for net, tally, questions in asked_greatly():
            for question in questions:
                for _ in range(3):
                    places = tuple([place for place in range(net[0]) if chance.random() < 0.6])
                    self.assertEqual(shown(net, tally, question, places), own_shown(net, tally, question, places))


class Paper(unittest.TestCase):

    def check(self, net, tally, question):
        told = paper(net, tally, question)
        self.assertIsNone(paper_error(net, tally, question, told), (net, tally, question))
        self.assertIsNone(own_error(net, tally, question, told), (net, tally, question))
        self.assertEqual((told[0][0], told[1][0]), (least(net, tally, question), most(net, tally, question)))
        return told

    def test_small_tallies(self):
        met = {}
        for net, tally, right, questions in asked_often():
            for question in questions:
                (_, _, below), (_, _, above) = self.check(net, tally, question)
                word = question[0] if question[0] != "both" or put_in_order(net, question) else "apart"
                met[word, below and below[0], above and above[0]] = True
        self.assertEqual(set(met) | {("both", None, "places")},
                         {("along", None, "road"), ("touch", None, "places"), ("touch", "places", "places"),
                          ("both", None, "road"), ("both", None, "places"), ("both", "places", "road"),
                          ("both", "places", "places"), ("apart", None, None), ("apart", None, "road")})

    def test_what_goes_between_is_few(self):
        net = (6, ((0, 1), (0, 1), (0, 2), (1, 2), (1, 3), (2, 3), (3, 4), (3, 5), (4, 5)))
        low, high = self.check(net, (9, 3, 6, 2, 10, 8, 5, 13, 5), ("both", 5, 0))
        self.assertEqual((low[0], low[2], high[0], high[2][0]), (0, None, 2, "places"))

    def test_great_tallies(self):
        for net, tally, questions in asked_greatly():
            for question in questions:
                self.check(net, tally, question)

    def test_nothing_counted(self):
        for net in (NET, DOORS, chain(23, 2), (3, ((1, 2),)), (2, ((0, 1),) * 60)):
            tally = (0,) * len(net[1])
            for question in (("touch", (0,)), ("both", 0, 0), ("both", 0, len(tally) - 1), ("along", (0,))):
                self.assertEqual([triple[:2] for triple in self.check(net, tally, question)], [(0, ())] * 2)


class PaperError(unittest.TestCase):

    def check(self, value, error, question=("both", 0, 2)):
        self.assertEqual(paper_error(DOORS, COUNTS, question, value), error, value)

    def test_form(self):
        for value in KINDS:
            self.check(value, "form")
            if not isinstance(value, tuple) or len(value) != 3:
                self.check((value, HIGH), "form")
                self.check((LOW, value), "form")
        for value in ((LOW,), (LOW, HIGH, HIGH), [LOW, HIGH], (list(LOW), HIGH), (LOW, list(HIGH)), (LOW[:2], HIGH),
                      (LOW, HIGH + (None,)), LOW, HIGH, ()):
            self.check(value, "form")

    def test_explanation(self):
        for value in KINDS + (FEW[::-1], FEW[:2], list(FEW), FEW + (((1, 3), 1),), (((0, 2), True),) + FEW[1:]):
            self.check(((2, value, LOW[2]), HIGH), ("least", "explanation"))
            self.check((LOW, (3, value, HIGH[2])), ("greatest", "explanation"))

    def test_number(self):
        for number in NO_INTEGERS + (0, 1, 3, -2, 10 ** 399):
            self.check(((number, FEW, LOW[2]), HIGH), ("least", "number"))
        for number in NO_INTEGERS + (0, 1, 2, -3, 10 ** 399):
            self.check((LOW, (number, MANY, HIGH[2])), ("greatest", "number"))
        net, counts = (3, ((0, 1), (0, 1), (1, 2))), (1, 1, 2)
        told = explained(net, counts)
        self.assertIsNone(paper_error(net, counts, ("both", 0, 2), ((1, told, ("places", (0,))), (1, told, ("road", 0)))))
        for few, many, error in ((True, 1, "least"), (1, True, "greatest")):
            value = ((few, told, ("places", (0,))), (many, told, ("road", 0)))
            self.assertEqual(paper_error(net, counts, ("both", 0, 2), value), (error, "number"))

    def test_bound(self):
        for value in KINDS:
            self.check(((2, FEW, value), HIGH), ("least", "bound"))
            self.check((LOW, (3, MANY, value)), ("greatest", "bound"))
            self.check(((2, FEW, ("places", value)), HIGH), None if repr(value) == "(0,)" else ("least", "bound"))
            self.check((LOW, (3, MANY, ("road", value))), None if repr(value) == "0" else ("greatest", "bound"))
            self.check((LOW, (3, MANY, ("places", value))), ("greatest", "bound"))
        for bound in (("road", 0), ("places", (0,), ()), ["places", (0,)], ("places", [0]), ("place", (0,)), ("places",)):
            self.check(((2, FEW, bound), HIGH), ("least", "bound"))
        for bound in (("road", 2), ("road", 1), ("road", False), ("road", 0, 0), ["road", 0], ("places", 0), ("road", (0,))):
            self.check((LOW, (3, MANY, bound)), ("greatest", "bound"))
        self.check((HIGH, HIGH), ("least", "bound"))
        self.check((LOW, LOW), ("greatest", "bound"))

    def test_bounds_of_stretches(self):
        question = ("along", (0, 2))
        self.check(((2, FEW, None), (3, MANY, ("road", 0))), None, question)
        self.check(((2, FEW, ("places", (0,))), (3, MANY, ("road", 0))), ("least", "bound"), question)
        self.check(((3, MANY, None), (3, MANY, ("road", 0))), ("least", "bound"), question)
        for bound in (None, ("road", 2), ("road", 1), ("places", (0,)), ("places", ())):
            self.check(((2, FEW, None), (3, MANY, bound)), ("greatest", "bound"), question)

    def test_bounds_of_one_road_told_twice(self):
        question = ("both", 2, 2)
        self.check(((4, FEW, None), (4, MANY, ("road", 2))), None, question)
        self.check(((4, FEW, ("places", (0, 1))), (4, MANY, ("road", 2))), ("least", "bound"), question)
        for bound in (None, ("road", 0), ("places", (0, 1))):
            self.check(((4, FEW, None), (4, MANY, bound)), ("greatest", "bound"), question)

    def test_bounds_of_roads_of_which_none_is_ahead(self):
        question = ("both", 0, 1)
        self.check(((0, FEW, None), (0, MANY, None)), None, question)
        self.check(((0, FEW, ("places", ())), (0, MANY, None)), ("least", "bound"), question)
        for bound in (("road", 0), ("places", ()), ("places", (0,))):
            self.check(((0, FEW, None), (0, MANY, bound)), ("greatest", "bound"), question)
        # A road without a count shows nothing either, where none is ahead.
        self.assertEqual(paper_error(DOORS, (0,) * 4, question, ((0, (), None), (0, (), ("road", 0)))), ("greatest", "bound"))
        self.assertIsNone(paper_error(DOORS, (0,) * 4, ("both", 2, 0), ((0, (), None), (0, (), ("road", 0)))))

    def test_bounds_of_marks(self):
        question = ("touch", (0, 3))
        low, high = (3, FEW, ("places", (0,))), (4, MANY, ("places", (0, 1, 2)))
        self.check((low, high), None, question)
        for bound in (None, ("places", (0, 1)), ("places", ()), ("road", 0), ("places", (0, 1, 2))):
            self.check(((3, FEW, bound), high), ("least", "bound"), question)
        for bound in (None, ("places", (0, 1)), ("places", ()), ("road", 2), ("places", (0,))):
            self.check((low, (4, MANY, bound)), ("greatest", "bound"), question)

    def test_no_bound_where_the_least_is_0(self):
        question = ("touch", (3,))
        counts = (3, 2, 5, 0)
        told = explained(DOORS, counts)
        high = (0, told, ("places", (0, 1, 2)))
        self.assertIsNone(paper_error(DOORS, counts, question, ((0, told, None), high)))
        # Places would show 0, too, but then no bound is told.
        self.assertEqual(shown(DOORS, counts, question, (0,))[0], 0)
        self.assertEqual(paper_error(DOORS, counts, question, ((0, told, ("places", (0,))), high)), ("least", "bound"))

    def test_the_first_error_is_told(self):
        bad = (9, None, None)
        self.check((bad, bad), ("least", "explanation"))
        self.check(((9, FEW, None), bad), ("least", "number"))
        self.check(((2, FEW, None), bad), ("least", "bound"))
        self.check((LOW, bad), ("greatest", "explanation"))
        self.check((LOW, (9, MANY, None)), ("greatest", "number"))
        self.check((LOW, (3, MANY, None)), ("greatest", "bound"))
        self.check((bad, bad[:2]), "form")

    def test_200_and_201_pairs(self):
        net = (3, ((0, 1),) * 15 + ((1, 2),) * 15)
        trips = [(one, 15 + other) for one in range(15) for other in range(15)]
        for many, error in ((200, None), (201, ("greatest", "explanation"))):
            told = tuple([(trip, 1) for trip in trips[:many]])
            tally = tuple([sum([road in trip for trip, _ in told]) for road in range(30)])
            question = ("both", 0, 0)
            few = with_number(net, tally, question, tally[0])
            value = ((tally[0], few, None), (tally[0], told, ("road", 0)))
            self.assertEqual(paper_error(net, tally, question, value), error)

    def test_beside_a_judge_of_the_test(self):
        chance = random.Random(102)
        met = {}
        for net, tally, right, questions in asked_often():
            for question in questions[::2]:
                value = paper(net, tally, question)
                for _ in range(4):
                    bad = spoilt(chance, net, right, value)
                    wanted = own_error(net, tally, question, bad)
                    self.assertEqual(paper_error(net, tally, question, bad), wanted, (net, tally, question, bad))
                    met[wanted] = met.get(wanted, 0) + 1
        self.assertEqual(len(met), 7)
        self.assertGreater(min(met.values()), 50)

    def test_papers_with_other_explanations(self):
        chance = random.Random(103)
        for net, tally, questions in asked_greatly()[::2]:
            for question in questions[::2]:
                low, high = paper(net, tally, question)
                told = shuffled(chance, net, tally, 60)
                number = taken(question, told)
                wanted = None if number == low[0] else ("least", "number")
                self.assertEqual(paper_error(net, tally, question, ((low[0], told, low[2]), high)), wanted)
                wanted = None if number == high[0] else ("greatest", "number")
                self.assertEqual(paper_error(net, tally, question, (low, (high[0], told, high[2]))), wanted)


class Calls(unittest.TestCase):

    def test_by_place_by_name_and_again(self):
        first = {}
        cases = [(net, tally, question) for net, tally, questions in asked_greatly()[::6] for question in questions[::3]]
        for net, tally, question in cases + cases[::-1]:
            told = check_calls(self, paper, ("net", "tally", "question"), (net, tally, question))
            self.assertEqual(first.setdefault((net, tally, question), told), told)
            check_calls(self, paper_error, ("net", "tally", "question", "value"),
                        (net, tally, question, paper(net, tally, question)))
            check_calls(self, shown, ("net", "tally", "question", "places"), (net, tally, question, (0,)))
        for value in KINDS + ((LOW, HIGH), (LOW, [3]), [LOW, HIGH], (LOW, (3, [], HIGH))):
            check_calls(self, paper_error, ("net", "tally", "question", "value"), (DOORS, COUNTS, ("both", 0, 2), value))

    def test_in_any_order(self):
        cases = [(net, tally, question) for net, tally, questions in asked_greatly()[::5] for question in questions[::4]]
        ahead = [answer(paper, *case) for case in cases]
        self.assertEqual([answer(paper, *case) for case in reversed(cases)], ahead[::-1])
        self.assertEqual([answer(paper, net, tally, ("touch", (0,))) for net, tally, _ in some_explained()[::9]],
                         [answer(paper, net, tally, ("touch", (0,))) for net, tally, _ in some_explained()[::9]])


if __name__ == "__main__":
    unittest.main()
