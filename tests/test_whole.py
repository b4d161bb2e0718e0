"""What the document promises over the whole program: equal calls, nothing that changes, and parts that fit together."""

import copy
import random
import unittest
from functools import cache

from suretrips.answering import door_table, least, most
from suretrips.anynumber import with_number
from suretrips.booktexts import book_text, read_book
from suretrips.costs import least_cost, least_cost_error
from suretrips.desks import Desk, desk_behind
from suretrips.errors import TripError
from suretrips.exchanging import exchanged, exchanges
from suretrips.explaining import all_explained, explained, explanation_error, settled, tally_of
from suretrips.fillings import filled, narrowed, no_filling
from suretrips.flows import flow_error, greatest_flow
from suretrips.following import apart, avoider, barrier, followers, follows, ways_past
from suretrips.nets import roads_from, roads_to, trip_at, trip_count
from suretrips.nettexts import net_text, read_net
from suretrips.papers import paper, paper_error
from suretrips.questions import taken
from suretrips.shells import Shell
from suretrips.stretches import is_sure, least_along, least_through, most_along, most_through, sure_stretches
from suretrips.tallies import less, put_together, total
from suretrips.tallytexts import read_tally, tally_text
from suretrips.unrolling import counts_of, road_of, tally_of_plan, told_back, unrolled
from suretrips.verdicts import answered, holds, verdict, witnesses
from tests.common import (KINDS, TOP, all_questions, all_stretches, asked_often, random_counts, random_known_book,
                          random_question, random_saying, some_plans)
from tests.test_interface import FUNCTIONS


def told_by(function, values, names=None):
    """What a call returns or raises; desks and shells, which are told by what can be read off them."""
    try:
        value = function(*values) if names is None else function(**dict(zip(names, values)))
    except TripError as error:
        return ("raises", type(error).__name__, repr(vars(error)))
    if isinstance(value, Desk):
        value = (value.net, value.tally, value.known, value.log)
    return ("returns", "a shell" if isinstance(value, Shell) else repr(value))


def values_for(chance, net, tally, question):
    """For each name of an argument values that may be handed in for it, if net, tally and question are those asked for."""
    roads, places = len(net[1]), net[0]
    told = explained(net, tally)
    other = with_number(net, tally, question, most(net, tally, question))
    trip = trip_at(net, chance.randrange(trip_count(net)))
    holes = tuple([(count // 2, chance.choice((None, count))) for count in tally])
    stretch = chance.choice(all_stretches(net))
    book = random_known_book(chance, net, tally, told)
    any_value = chance.choice(KINDS + (net, tally, told, trip, holes, question, stretch, book, Desk(net), net_text(net), book_text(book)))
    counted = [road for road in range(roads) if tally[road]]
    return {
        "net": net, "tally": tally, "question": question, "value": any_value, "told": told, "explanation": told, "trip": trip,
        "holes": holes, "stretch": stretch, "book": book, "place": chance.randrange(places), "number": chance.randint(0, trip_count(net)),
        "steps": exchanges(net, told, other), "room": tally, "feet": (0,), "heads": (places - 1,), "ends": (chance.randrange(roads),),
        "costs": tuple([chance.randint(-9, 9) for _ in tally]), "places": tuple(range(chance.randrange(places))), "few": chance.choice((1, 2, TOP)),
        "a": chance.choice(counted), "b": chance.randrange(roads), "saying": random_saying(chance, net, max(tally)),
    }


def calls_for(chance, net, tally, question):
    """A call of each function of the interface, as (function, names, values)."""
    calls = []
    plan = chance.choice(some_plans())
    counts = random_counts(chance, plan, 5)
    for module, functions in FUNCTIONS.items():
        for name, names in functions.items():
            told = values_for(chance, net, tally, question)
            if name in ("leads", "put_together", "less", "exchanges"):
                pair = {"leads": (chance.randrange(len(net[1])), chance.randrange(len(net[1]))),
                        "exchanges": (told["explanation"], with_number(net, tally, question, least(net, tally, question)))}
                told["one"], told["other"] = pair.get(name, (tally, tally_of(net, ((told["trip"], 1),))))
            if "plan" in names:
                plan_net = unrolled(plan)
                told.update({"plan": plan, "counts": counts, "tally": tally_of_plan(plan, counts), "room": chance.randrange(plan[0]),
                             "beat": chance.randrange(plan[1]), "door": chance.randrange(len(plan[2])),
                             "trip": trip_at(plan_net, 0) if trip_count(plan_net) else ()})
            if module.__name__ == "suretrips.desks" and "value" in names:
                told["value"] = chance.choice(((("put", tally),), told["value"]))
            calls.append((getattr(module, name), names, tuple([told[word] for word in names])))
    return calls


@cache
def cases():
    """Nets, tallies and questions, with the explanations of the tally."""
    chance = random.Random(141)
    found = [(net, tally, chance.choice(questions), right) for net, tally, right, questions in asked_often() if trip_count(net) and any(tally)]
    return chance.sample(found, 60)


class EqualCalls(unittest.TestCase):

    def test_each_function_by_place_by_name_again_and_in_any_order(self):
        chance = random.Random(142)
        calls = [call for net, tally, question, _ in cases()[:25] for call in calls_for(chance, net, tally, question)]
        handed = [repr(values) for _, _, values in calls]
        first = [told_by(function, values) for function, _, values in calls]
        self.assertGreater(len([told for told in first if told[0] == "returns"]), len(first) // 2)
        for by_name in (True, False, True):
            order = list(range(len(calls)))
            chance.shuffle(order)
            for at in order:
                function, names, values = calls[at]
                self.assertEqual(told_by(function, values, names if by_name else None), first[at], function)
        for (function, _, values), before in zip(calls, handed):
            if "Desk object" not in before:
                self.assertEqual(repr(values), before, function)

    def test_what_was_told_does_not_change(self):
        chance = random.Random(143)
        calls = [call for net, tally, question, _ in cases()[25:35] for call in calls_for(chance, net, tally, question)]
        told = []
        for function, _, values in calls:
            try:
                told.append(function(*values))
            except TripError as error:
                told.append(tuple(vars(error).items()))
        before = [None if isinstance(value, (Desk, Shell)) else copy.deepcopy(value) for value in told]
        for function, _, values in reversed(calls):
            told_by(function, values)
        for value, kept in zip(told, before):
            if not isinstance(value, (Desk, Shell)):
                self.assertEqual(value, kept)


class OneThroughAll(unittest.TestCase):

    def test_texts(self):
        for net, tally, _, _ in cases():
            self.assertEqual((read_net(net_text(net)), read_tally(net, tally_text(tally))), (net, tally))

    def test_explanations(self):
        for net, tally, question, right in cases():
            told = explained(net, tally)
            self.assertEqual(all_explained(net, tally), tuple(right))
            self.assertIs(settled(net, tally), len(right) == 1)
            for other in right[::5]:
                self.assertIsNone(explanation_error(net, tally, other))
                self.assertEqual(exchanged(net, told, exchanges(net, told, other)), other)
                self.assertTrue(least(net, tally, question) <= taken(question, other) <= most(net, tally, question))

    def test_numbers(self):
        for net, tally, question, _ in cases():
            low, high = least(net, tally, question), most(net, tally, question)
            told = paper(net, tally, question)
            self.assertIsNone(paper_error(net, tally, question, told))
            self.assertEqual([part[0] for part in told], [low, high])
            for number in range(low, high + 1):
                self.assertEqual(taken(question, with_number(net, tally, question, number)), number)
            holes = tuple([(count, count) for count in tally])
            if question[0] == "along":
                stretch = question[1]
                self.assertEqual((low, high), (least_along(net, tally, stretch), most_along(net, tally, stretch)))
                self.assertEqual((low, high), (least_through(net, holes, stretch), most_through(net, holes, stretch)))
                self.assertIs(is_sure(net, tally, stretch), low > 0)
            for number in (low, high):
                self.assertEqual(verdict(net, tally, ("least", number, question)), "surely" if number == low else "perhaps")
                self.assertEqual(verdict(net, tally, ("most", number, question)), "surely" if number == high else "perhaps")
            enough, fewer = witnesses(net, tally, ("not", ("most", high, question)))
            self.assertIsNone(enough)
            self.assertIs(holds(("most", high, question), fewer), True)

    def test_following(self):
        for net, tally, _, right in cases():
            for a in [road for road in range(len(tally)) if tally[road]]:
                self.assertEqual(sorted(set(ways_past(net, tally, a)[1])), sorted({trip for told in right for trip, _ in told if a in trip})[:10])
                for b in range(len(tally)):
                    both = ("both", a, b)
                    self.assertIs(follows(net, tally, a, b), least(net, tally, both) == tally[a])
                    self.assertIs(follows(net, tally, a, b), a == b or b in followers(net, tally, a))
                    self.assertIs(apart(net, tally, a, b), most(net, tally, both) == 0)
                    self.assertIs(avoider(net, tally, a, b) is None, barrier(net, tally, a, b) is not None)
                    self.assertIs(verdict(net, tally, ("follow", a, b)) == "surely", follows(net, tally, a, b))

    def test_doors_flows_and_costs(self):
        for net, tally, _, _ in cases():
            ins, outs = roads_from(net, 0), roads_to(net, net[0] - 1)
            self.assertEqual(door_table(net, tally), tuple([tuple([(least(net, tally, ("both", one, other)), most(net, tally, ("both", one, other)))
                                                                   for other in outs]) for one in ins]))
            flow = greatest_flow(net, tally, (0,), (net[0] - 1,), ())
            self.assertIsNone(flow_error(net, tally, (0,), (net[0] - 1,), (), flow))
            self.assertEqual(flow[0], total(net, tally))
            holes = tuple([(count, count) for count in tally])
            found = least_cost(net, holes, (1,) * len(tally))
            self.assertIsNone(least_cost_error(net, holes, (1,) * len(tally), found))
            self.assertEqual((found[0], found[1], filled(net, holes), narrowed(net, holes)), (sum(tally), tally, tally, holes))
            self.assertIsNone(no_filling(net, holes))

    def test_desks_books_and_shells(self):
        chance = random.Random(144)
        for net, tally, _, _ in cases():
            told = explained(net, tally)
            book = random_known_book(chance, net, tally, told)
            self.assertEqual(read_book(book_text(book)), book)
            known = dict.fromkeys([trip for trip, _ in book[4]])
            desk = desk_behind(net, (("put", tally),) + tuple([("know", trip, times) for trip, times in book[4]]))
            self.assertEqual([trip for trip, _ in desk.known], sorted(known))
            self.assertEqual(put_together(desk.rest(), tally_of(net, desk.known)), tally)
            self.assertEqual(less(tally, desk.rest()), tally_of(net, desk.known))
            shell = Shell()
            self.assertEqual(shell.say("book " + book_text(book)), f"version {desk.version}")
            self.assertEqual(shell.say("answers"), " | ".join(answered(book)) or "none")
            for ask, text in zip(book[5], answered(book)):
                if ask[0] in ("least", "most"):
                    self.assertEqual(text, str(getattr(desk, ask[0])(ask[1])))
                if ask[0] == "followers" and desk.tally[ask[1]]:
                    names = [book[1][road] for road in range(len(tally)) if road != ask[1] and desk.follows(ask[1], road)]
                    self.assertEqual(text, " ".join(names) or "-")
            seen = Desk(net)
            for trip, times in told:
                seen.see(trip, times)
                seen.know(trip, times)
            self.assertEqual((seen.tally, seen.known, seen.rest(), seen.settled()), (tally, told, (0,) * len(tally), True))

    def test_plans(self):
        chance = random.Random(145)
        for plan in some_plans()[::3]:
            counts = random_counts(chance, plan, TOP // 100)
            net, tally = unrolled(plan), tally_of_plan(plan, counts)
            told = explained(net, tally)
            self.assertIsNone(explanation_error(net, tally, told))
            passed = {}
            for trip, times in told:
                for word, number, beat in told_back(plan, trip):
                    passed[word, number, beat] = passed.get((word, number, beat), 0) + times
            for door, part in enumerate(counts_of(plan, tally)):
                for beat, count in enumerate(part):
                    self.assertEqual(passed.get(("door", door, beat), 0), count)
                    self.assertEqual(tally[road_of(plan, door, beat)], count)
            for question in [random_question(chance, net) for _ in range(4)] if trip_count(net) else ():
                self.assertIsNone(paper_error(net, tally, question, paper(net, tally, question)))
            self.assertIs(all([is_sure(net, tally, stretch) for stretch in sure_stretches(net, tally)]), True)

    def test_all_numbers_are_met_in_small_tallies(self):
        for net, tally, _, right in cases()[:20]:
            for question in all_questions(net)[::6]:
                numbers = {taken(question, told) for told in right}
                self.assertEqual(sorted(numbers), list(range(least(net, tally, question), most(net, tally, question) + 1)))


if __name__ == "__main__":
    unittest.main()
