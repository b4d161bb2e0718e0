"""Sayings and the answers of books: [J3], [J4] and [J8], and what [J9] says of them."""

import random
import unittest

from suretrips.answering import least, most
from suretrips.booktexts import book_text, read_book
from suretrips.explaining import explanation_error, tally_of
from suretrips.fillings import narrowed
from suretrips.nets import trip_at, trip_count
from suretrips.questions import question_error, taken
from suretrips.stretches import sure_stretches
from suretrips.verdicts import answered, holds, saying_error, verdict, witnesses
from tests.common import (KINDS, NO_INTEGERS, TOP, all_questions, all_sayings, answer, asked_greatly, asked_often, chain,
                          check_calls, does_hold, great_tallies, has_known, is_taken, known_often, numbers_of, raised,
                          random_question, random_saying, said_of, some_explained, wide)

RIVER, SEEN = (4, ((0, 1), (0, 1), (1, 2), (1, 3), (2, 3))), (5, 3, 6, 2, 6)
BOTH = ("both", 0, 2)
TURNED = {"surely": "never", "never": "surely", "perhaps": "perhaps"}


def with_nots(many, saying):
    for _ in range(many):
        saying = ("not", saying)
    return saying


class SayingError(unittest.TestCase):

    def check(self, value, error):
        """The same is wrong within "not"s, however many there may be."""
        for nots in range(9):
            self.assertEqual(saying_error(RIVER, with_nots(nots, value)), error, value)

    def test_sayings(self):
        for saying in all_sayings(RIVER, SEEN, all_questions(RIVER)[::3]):
            self.assertIsNone(saying_error(RIVER, saying))
        for number in (0, 1, TOP):
            for question in (BOTH, ("touch", (0, 4)), ("along", (0, 2, 4))):
                self.check(("least", number, question), None)
                self.check(("most", number, question), None)
        self.check(("follow", 0, 4), None)
        self.check(("follow", 3, 3), None)

    def test_eight_nots_and_one_more(self):
        for saying in (("follow", 0, 1), ("least", 4, BOTH), ("follow", 0, 9), ("least", -1, BOTH), "form", ("not",)):
            for nots in (9, 10, 15):
                self.assertEqual(saying_error(RIVER, with_nots(nots, saying)), "form")
        self.assertIsNone(saying_error(RIVER, with_nots(8, ("follow", 0, 1))))
        self.assertEqual(saying_error(RIVER, with_nots(8, ("follow", 0, 5))), ("road",))

    def test_form(self):
        for value in KINDS:
            self.check(value, "form")
            for word in ("least", "most", "follow"):
                self.check((word, value), "form")
                self.check((word, 1, 2, value), "form")
                self.check([word, 1, BOTH], "form")
            self.check((value, 1, 2), "form")
            self.check(("not", 1, value), "form")
        for value in (("not",), ("least",), ("least", 4), ["not", ("follow", 0, 1)], ("Not", ("follow", 0, 1)), ("both", 0, 2),
                      ("follows", 0, 1), ("follow", 0), ("follow", 0, 1, 2), {"not": ("follow", 0, 1)}, ("least", 4, 5, BOTH),
                      ("not", ("not",)), "not", ("not", "follow", 0, 1), ("follow", (0, 1))):
            self.check(value, "form")

    def test_number_ahead_of_question(self):
        for word in ("least", "most"):
            for number in NO_INTEGERS + (-1, TOP + 1, 10 ** 399, -10 ** 399):
                self.check((word, number, BOTH), ("number",))
                self.check((word, number, None), ("number",))

    def test_question(self):
        for word in ("least", "most"):
            for value in KINDS + (("both", 0, 9), ("both", True, 1), ("touch", ()), ("touch", (2, 1)), ("along", (0, 4)), ("along", [0])):
                error = question_error(RIVER, value)
                self.assertIsNotNone(error)
                self.check((word, 4, value), ("question", error))

    def test_road(self):
        for value in NO_INTEGERS + (-1, 5, 10 ** 399):
            self.check(("follow", value, 0), ("road",))
            self.check(("follow", 0, value), ("road",))
            self.check(("follow", value, value), ("road",))

    def test_a_saying_that_holds_more_than_is_looked_at(self):
        self.assertEqual(saying_error(RIVER, with_nots(19, KINDS[-1])), "form")


class Holds(unittest.TestCase):

    def test_in_explanations_of_small_tallies(self):
        for net, tally, right in some_explained()[::4]:
            for saying in all_sayings(net, tally, all_questions(net)[::5]):
                for told in right[:4]:
                    self.assertIs(holds(saying, told), does_hold(saying, told))
                    self.assertIs(holds(("not", saying), told), not does_hold(saying, told))
                    self.assertIs(holds(with_nots(8, saying), told), does_hold(saying, told))

    def test_at_the_edge(self):
        one = (((0, 2, 4), 3), ((0, 3), 2), ((1, 2, 4), 3))
        for number, at_least, at_most in ((2, True, False), (3, True, True), (4, False, True)):
            self.assertIs(holds(("least", number, BOTH), one), at_least)
            self.assertIs(holds(("most", number, BOTH), one), at_most)
        self.assertIs(holds(("follow", 0, 2), one), False)
        self.assertIs(holds(("follow", 2, 4), one), True)
        self.assertIs(holds(("follow", 3, 3), one), True)

    def test_of_nobody(self):
        for saying, is_so in ((("follow", 0, 2), True), (("least", 0, BOTH), True), (("least", 1, BOTH), False), (("most", 0, BOTH), True)):
            self.assertIs(holds(saying, ()), is_so)
            self.assertIs(holds(("not", saying), ()), not is_so)

    def test_of_many(self):
        told = (((0, 2, 4), TOP), ((0, 3), TOP))
        self.assertIs(holds(("least", TOP, ("touch", (0,))), told), True)
        self.assertIs(holds(("most", TOP, ("touch", (0,))), told), False)
        self.assertIs(holds(("most", TOP, BOTH), told), True)


class Verdict(unittest.TestCase):

    def check_witnesses(self, net, tally, saying, said):
        found = witnesses(net, tally, saying)
        self.assertIsInstance(found, tuple)
        self.assertEqual([told is None for told in found], [said == "never", said == "surely"])
        for told, is_so in zip(found, (True, False)):
            if told is not None:
                self.assertIsNone(explanation_error(net, tally, told))
                self.assertIs(does_hold(saying, told), is_so)

    def test_as_all_explanations_of_small_tallies_tell(self):
        told = {"surely": 0, "perhaps": 0, "never": 0}
        for net, tally, right, questions in asked_often()[::3]:
            for saying in all_sayings(net, tally, questions[:6]):
                said = said_of(saying, right)
                told[said] += 1
                self.assertEqual(verdict(net, tally, saying), said, (net, tally, saying))
                self.assertEqual(verdict(net, tally, ("not", saying)), TURNED[said])
                self.assertEqual(verdict(net, tally, with_nots(8, saying)), said)
        self.assertGreater(min(told.values()), 300)

    def test_witnesses_of_small_tallies(self):
        for net, tally, right, questions in asked_often()[::5]:
            for saying in all_sayings(net, tally, questions[-4:])[::2]:
                said = said_of(saying, right)
                self.check_witnesses(net, tally, saying, said)
                self.check_witnesses(net, tally, ("not", saying), TURNED[said])

    def test_great_counts(self):
        for net, tally, questions in asked_greatly()[::3]:
            for question in questions[:6]:
                low, high = least(net, tally, question), most(net, tally, question)
                for number, said, other in ((low, "surely", "perhaps"), (low + 1, "perhaps", "perhaps"), (high, "perhaps", "surely"),
                                            (high + 1, "never", "surely"), (low - 1, "surely", "never")):
                    if low + 1 < high and 0 <= number <= TOP:
                        self.assertEqual(verdict(net, tally, ("least", number, question)), said)
                        self.assertEqual(verdict(net, tally, ("most", number, question)), other)
                        self.check_witnesses(net, tally, ("least", number, question), said)
                        self.check_witnesses(net, tally, ("not", ("most", number, question)), TURNED[other])

    def test_follow_of_great_counts(self):
        for net, tally in great_tallies()[::2]:
            roads = range(0, len(net[1]), 13)
            for a in roads:
                for b in roads:
                    said = verdict(net, tally, ("follow", a, b))
                    low, high = least(net, tally, ("both", a, b)), most(net, tally, ("both", a, b))
                    self.assertEqual(said == "surely", low == tally[a])
                    self.assertEqual(said == "never", high < tally[a])
                    self.check_witnesses(net, tally, ("follow", a, b), said)

    def test_of_nobody(self):
        for saying, said in ((("follow", 0, 2), "surely"), (("not", ("follow", 0, 2)), "never"), (("least", 1, BOTH), "never"),
                             (("most", 0, BOTH), "surely"), (("least", 0, BOTH), "surely"), (("least", TOP, BOTH), "never")):
            self.assertEqual(verdict(RIVER, (0,) * 5, saying), said)
            self.check_witnesses(RIVER, (0,) * 5, saying, said)
        self.assertEqual(witnesses(RIVER, (0,) * 5, ("follow", 0, 2)), ((), None))
        self.assertEqual(verdict((3, ((1, 2),)), (0,), ("follow", 0, 0)), "surely")

    def test_the_greatest_number(self):
        net, tally = (2, ((0, 1), (0, 1))), (TOP, TOP)
        self.assertEqual(verdict(net, tally, ("most", TOP, ("touch", (0,)))), "surely")
        self.assertEqual(verdict(net, tally, ("least", TOP, ("touch", (0, 1)))), "surely")
        self.assertEqual(verdict(net, tally, ("most", TOP, ("touch", (0, 1)))), "never")


def book_with(net, holes, known, asks):
    """A book of such names that the numbers of roads and places can be read off them."""
    places = tuple([f"p{place}" for place in range(net[0])])
    names = tuple([f"r{road}" for road in range(len(net[1]))])
    return (places, names, net, tuple(holes), tuple(known), tuple(asks))


def answer_as_told(net, tally, right, ask):
    """What answers ask in a book of book_with, right being the explanations that have all known trips."""
    word, *told = ask
    if word in ("least", "most"):
        return str((min if word == "least" else max)(numbers_of(told[0], right)))
    if word == "say":
        return said_of(told[0], right)
    if word == "sure":
        return ", ".join([" ".join([f"r{road}" for road in stretch]) for stretch in sure_stretches(net, tally)]) or "-"
    past = [trip for told_ in right for trip, _ in told_ if told[0] in trip]
    found = [f"r{road}" for road in range(len(tally)) if past and road != told[0] and all([road in trip for trip in past])]
    return " ".join(found) or "-"


def asks_of(chance, net, tally):
    """Asks of all sorts about a net that has trips."""
    asks = [("followers", road) for road in range(len(net[1]))] + [("sure",)]
    for _ in range(8):
        asks.extend([("least", random_question(chance, net)), ("most", random_question(chance, net)),
                     ("say", random_saying(chance, net, max(tally)))])
    return asks[:40]


class Answered(unittest.TestCase):

    def test_as_the_explanations_tell_that_have_the_known_trips(self):
        chance = random.Random(92)
        for net, tally, known, right in known_often():
            if trip_count(net):
                self.assertTrue(right)
                asks = asks_of(chance, net, tally)
                wanted = tuple([answer_as_told(net, tally, right, ask) for ask in asks])
                book = book_with(net, [(count, count) for count in tally], known, asks)
                self.assertEqual(answered(book), wanted, book)

    def test_counts_that_are_told_by_others(self):
        chance = random.Random(93)
        lacking = 0
        for net, tally, known, _ in known_often():
            asks = asks_of(chance, net, tally)[:6] if trip_count(net) else []
            whole = book_with(net, [(count, count) for count in tally], known, asks)
            holes = [(count, count) if chance.random() < 0.6 else (chance.randint(0, count), None) for count in tally]
            book = book_with(net, holes, known, asks)
            if narrowed(net, tuple(holes)) == tuple([(count, count) for count in tally]):
                lacking += any([high is None for _, high in holes])
                self.assertEqual(answered(book), answered(whole))
            else:
                self.assertEqual(answer(answered, book), raised("Unfit"))
        self.assertGreater(lacking, 30)

    def test_known_trips_that_do_not_fit(self):
        chance = random.Random(94)
        refused = 0
        for net, tally, right in some_explained():
            for _ in range(4 if trip_count(net) else 0):
                known = [(trip_at(net, chance.randrange(trip_count(net))), chance.randint(1, 2)) for _ in range(chance.randint(1, 3))]
                told = answer(answered, book_with(net, [(count, count) for count in tally], known, ()))
                fits = any([has_known(one, known) for one in right])
                self.assertEqual(told, ("returns", "()") if fits else raised("Unfit"))
                refused += not fits
        self.assertGreater(refused, 100)

    def test_a_trip_that_is_known_twice(self):
        net = (3, ((0, 1), (0, 1), (1, 2), (1, 2)))
        holes = ((3, 3), (2, 2), (4, 4), (1, 1))
        asks = (("least", ("both", 0, 2)), ("most", ("both", 0, 3)), ("say", ("follow", 0, 2)), ("followers", 0))
        for known, wanted in (((((0, 2), 2),), ("2", "1", "perhaps", "-")), ((((0, 2), 2), ((0, 2), 1)), ("3", "0", "surely", "r2")),
                              ((((0, 2), 1),) * 3, ("3", "0", "surely", "r2"))):
            self.assertEqual(answered(book_with(net, holes, known, asks)), wanted)
        for known in ((((0, 2), 2), ((0, 2), 2)), (((0, 2), 1),) * 4, (((0, 2), TOP),) * 9):
            self.assertEqual(answer(answered, book_with(net, holes, known, asks)), raised("Unfit"))
            self.assertEqual(answer(answered, book_with(net, holes, known, ())), raised("Unfit"))

    def test_sure_as_if_no_trips_were_known(self):
        book = book_with(RIVER, [(count, count) for count in SEEN], [((1, 3), 2)], [("sure",), ("least", ("along", (0, 2, 4)))])
        self.assertEqual(answered(book), ("r0 r2 r4, r1 r2 r4, r3", "5"))
        self.assertEqual(answered(book_with(RIVER, [(0, 0)] * 5, (), [("sure",), ("followers", 0), ("say", ("follow", 0, 1))])),
                         ("-", "-", "surely"))

    def test_no_tally_or_several(self):
        net = (3, ((0, 1), (1, 2)))
        for holes in (((1, 1), (2, 2)), ((0, 3), (4, None)), ((1, 2), (0, None)), ((0, None), (0, None)), ((1, None), (0, 2)),
                      ((5, None), (0, None))):
            for asks in ((), (("sure",),)):
                self.assertEqual(answer(answered, book_with(net, holes, (), asks)), raised("Unfit"))
        self.assertEqual(answered(book_with(net, ((3, None), (0, 3)), (), ())), ())
        self.assertEqual(answered(book_with(net, ((3, 3), (0, None)), (), (("most", ("touch", (1,))),))), ("3",))

    def test_great_counts(self):
        chance = random.Random(95)
        for net, many in ((chain(23, 2), 3), (wide(30, 30), 40), (chain(12, 5), 12), (wide(1, 59), 20)):
            told = tuple(sorted({trip_at(net, chance.randrange(trip_count(net))): chance.randint(1, 10 ** 26) for _ in range(many)}.items()))
            tally = tally_of(net, told)
            known = tuple([(trip, times // 2) for trip, times in told[::2] if times > 1])
            rest = tuple([count - often for count, often in zip(tally, tally_of(net, known))])
            questions = [random_question(chance, net) for _ in range(12)]
            asks = [(word, question) for question in questions for word in ("least", "most")] + [("sure",), ("followers", 0)]
            answers = answered(book_with(net, [(count, count) for count in tally], known, asks))
            for at, question in enumerate(questions):
                besides = sum([times for trip, times in known if is_taken(question, trip)])
                self.assertEqual(answers[2 * at], str(least(net, rest, question) + besides))
                self.assertEqual(answers[2 * at + 1], str(most(net, rest, question) + besides))
                self.assertLessEqual(int(answers[2 * at]), taken(question, told))
                self.assertLessEqual(taken(question, told), int(answers[2 * at + 1]))

    def test_of_books_that_were_read(self):
        chance = random.Random(96)
        for net, tally, known, right in known_often()[::9]:
            if trip_count(net):
                asks = asks_of(chance, net, tally)[:12]
                book = book_with(net, [(count, count) for count in tally], known, asks)
                self.assertEqual(answered(read_book(book_text(book))), answered(book))


class Calls(unittest.TestCase):

    def test_by_place_by_name_and_again(self):
        chance = random.Random(97)
        told = (((0, 2, 4), 3), ((0, 3), 2), ((1, 2, 4), 3))
        for value in KINDS + (("not", ("follow", 0, 2)), ("least", 4, BOTH), ["least", 4, BOTH], ("least", -1, BOTH), ("follow", 0, 9)):
            check_calls(self, saying_error, ("net", "value"), (RIVER, value))
        for saying in [random_saying(chance, RIVER, 6) for _ in range(40)]:
            check_calls(self, holds, ("saying", "explanation"), (saying, told))
            for function in (verdict, witnesses):
                check_calls(self, function, ("net", "tally", "saying"), (RIVER, SEEN, saying))
        for net, tally, known, _ in known_often()[::20]:
            asks = asks_of(chance, net, tally)[:9] if trip_count(net) else []
            check_calls(self, answered, ("book",), (book_with(net, [(count, count) for count in tally], known, asks),))
            check_calls(self, answered, ("book",), (book_with(net, [(0, None)] * len(tally), known, asks),))


if __name__ == "__main__":
    unittest.main()
