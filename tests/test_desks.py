"""Desks: [L1] to [L5]."""

import copy
import random
import unittest
from functools import cache

from suretrips.answering import least, most
from suretrips.desks import Desk, desk_behind
from suretrips.explaining import settled, tally_of
from suretrips.following import follows
from suretrips.nets import net_error, trip_at, trip_count, trip_error
from suretrips.questions import question_error, taken
from suretrips.tallies import tally_error
from tests.common import (KINDS, NO_INTEGERS, TOP, all_questions, answer, chain, check_calls, has_known, known_often,
                          numbers_of, raised, random_net, random_question, wide)

RIVER = (4, ((0, 1), (0, 1), (1, 2), (1, 3), (2, 3)))
EDITS = ("see", "take_back", "know", "doubt", "put")


class PlainDesk:
    """A desk that keeps its edits alone, and finds out from them what else it is asked for."""

    def __init__(self, net):
        self.net, self.edits, self.undone = net, [], []

    def state(self):
        """The counts, and the known trips with their times."""
        counts, known = [0] * len(self.net[1]), {}
        for word, trip, *times in self.edits:
            if word == "put":
                counts = list(trip)
            elif word in ("see", "take_back"):
                for road in trip:
                    counts[road] += times[0] if word == "see" else -times[0]
            else:
                known[trip] = known.get(trip, 0) + (times[0] if word == "know" else -times[0])
        return tuple(counts), {trip: times for trip, times in known.items() if times}

    def fits(self):
        counts, known = self.state()
        return all([count >= part for count, part in zip(counts, tally_of(self.net, tuple(known.items())))])

    def refuses(self, word, told):
        """What is raised by an edit, None if it can be done."""
        if word == "put":
            if tally_error(self.net, told[0]) is not None:
                return raised("BadTally", error=tally_error(self.net, told[0]))
        elif trip_error(self.net, told[0]) is not None or type(told[1]) is not int or not 1 <= told[1] <= TOP:
            return raised("Unfit")
        if word == "doubt" and self.state()[1].get(told[0], 0) < told[1]:
            return raised("Unfit")
        self.edits.append((word, *told))
        (counts, _), fits = self.state(), self.fits()
        self.edits.pop()
        if max(counts) > TOP:
            return raised("TooMany", limit=TOP)
        if not fits:
            return raised("Unfit")
        return raised("TooManyEdits") if len(self.edits) == 40 else None

    def edit(self, word, *told):
        """What an edit answers, as answer tells it."""
        wrong = self.refuses(word, told)
        if wrong is None:
            self.edits.append((word, *told))
            self.undone = []
        return wrong or ("returns", repr(len(self.edits)))

    def turn(self, word):
        """What undo or redo answers, as answer tells it."""
        fro, to = (self.edits, self.undone) if word == "undo" else (self.undone, self.edits)
        if not fro:
            return raised("NothingToUndo")
        to.append(fro.pop())
        return ("returns", repr(len(self.edits)))


def told_of(desk):
    """All that can be read off a desk."""
    return desk.net, desk.tally, desk.known, desk.version, desk.log, desk.rest()


def plainly_told_of(plain):
    counts, known = plain.state()
    pairs = tuple(sorted(known.items()))
    rest = tuple([count - part for count, part in zip(counts, tally_of(plain.net, pairs))])
    return plain.net, counts, pairs, len(plain.edits), tuple(plain.edits), rest


@cache
def desk_nets():
    chance = random.Random(111)
    nets = [RIVER, (2, ((0, 1),)), wide(2, 2), chain(4, 2)]
    return nets + [net for net in [random_net(chance, chance.randint(3, 6), 8) for _ in range(60)] if trip_count(net)][:30]


def random_edit(chance, desk, most):
    """An edit, which may be refused, drawn by chance."""
    net = desk.net
    trip = trip_at(net, chance.randrange(trip_count(net)))
    if desk.known and chance.random() < 0.5:
        trip = chance.choice(desk.known)[0]
    word = chance.choice(EDITS + ("see", "see", "know"))
    if word != "put":
        return (word, trip, chance.choice((1, 1, 2, chance.randint(1, most))))
    others = [(trip_at(net, chance.randrange(trip_count(net))), chance.randint(1, most)) for _ in range(2)]
    counts = tally_of(net, others + list(desk.known) * chance.choice((0, 1)))
    return (word, counts if chance.random() < 0.9 else counts[1:] + counts[:1])


def random_desk(chance, net, edits, most):
    """A desk of net with so many edits at the most."""
    desk = Desk(net)
    for _ in range(edits):
        word, *told = random_edit(chance, desk, most)
        answer(getattr(desk, word), *told)
    return desk


class New(unittest.TestCase):

    def test_noughts_and_nothing_known(self):
        for net in desk_nets() + [(3, ((1, 2),)), (24, ((0, 23),) * 60)]:
            desk = Desk(net)
            noughts = (0,) * len(net[1])
            self.assertEqual(told_of(desk), (net, noughts, (), 0, (), noughts))
            self.assertIs(desk.settled(), True)

    def test_bad_net(self):
        for value in KINDS + ((2, ()), (1, ((0, 1),)), (25, ((0, 1),)), (3, ((0, 1), (2, 1))), [2, ((0, 1),)], Desk(RIVER)):
            error = net_error(value)
            self.assertIsNotNone(error)
            self.assertEqual(answer(Desk, value), raised("BadNet", error=error))
            for log in ((), None, (("undo",),)):
                self.assertEqual(answer(desk_behind, value, log), raised("BadNet", error=error))

    def test_they_can_only_be_read(self):
        desk = random_desk(random.Random(112), RIVER, 9, 5)
        before = told_of(desk)
        for name in ("net", "tally", "known", "version", "log"):
            self.assertTrue(hasattr(desk, name))
            with self.assertRaises(AttributeError):
                setattr(desk, name, getattr(desk, name))
            with self.assertRaises(AttributeError):
                delattr(desk, name)
        self.assertEqual(told_of(desk), before)


class Edits(unittest.TestCase):

    def test_edits_undo_and_redo_as_a_plain_desk_tells(self):
        chance = random.Random(113)
        seen = {}
        for net in desk_nets():
            for most in (3, TOP):
                desk, plain = Desk(net), PlainDesk(net)
                for _ in range(60):
                    if chance.random() < 0.25:
                        word = chance.choice(("undo", "undo", "redo"))
                        told, wanted = answer(getattr(desk, word)), plain.turn(word)
                    else:
                        word, *values = random_edit(chance, desk, most)
                        told, wanted = answer(getattr(desk, word), *values), plain.edit(word, *values)
                    self.assertEqual(told, wanted)
                    self.assertEqual(told_of(desk), plainly_told_of(plain))
                    seen[(word, told[0])] = seen.get((word, told[0]), 0) + 1
        for word in EDITS + ("undo", "redo"):
            for told in ("returns", "raises"):
                self.assertGreater(seen[word, told], 20, (word, told))

    def test_versions_and_log(self):
        desk = Desk(RIVER)
        edits = (("see", (0, 2, 4), 5), ("know", (0, 2, 4), 2), ("put", (5, 3, 6, 2, 6)), ("doubt", (0, 2, 4), 1), ("take_back", (1, 3), 2))
        for at, (word, *told) in enumerate(edits):
            self.assertEqual(getattr(desk, word)(*told), at + 1)
            self.assertEqual((desk.version, desk.log), (at + 1, edits[:at + 1]))
        self.assertEqual((desk.tally, desk.known, desk.rest()), ((5, 1, 6, 0, 6), (((0, 2, 4), 1),), (4, 1, 5, 0, 5)))

    def test_wrong_trips_and_times(self):
        desk = Desk(RIVER)
        desk.put((5, 3, 6, 2, 6))
        desk.know((1, 3), 2)
        before = told_of(desk)
        for word in EDITS[:4]:
            edit = getattr(desk, word)
            for value in KINDS + ((0, 2), (0, 4), (3,), [1, 3], (True, 3), (1, 3, 3), (1, 5), (1, -2), "13"):
                self.assertEqual(answer(edit, value, 1), raised("Unfit"))
                self.assertEqual(answer(edit, value, None), raised("Unfit"))
            for times in NO_INTEGERS + (0, -1, TOP + 1, 10 ** 399, -10 ** 399):
                self.assertEqual(answer(edit, (1, 3), times), raised("Unfit"))
        self.assertEqual(told_of(desk), before)

    def test_put_of_all_kinds(self):
        desk = Desk(RIVER)
        desk.put((5, 3, 6, 2, 6))
        desk.know((1, 3), 2)
        before = told_of(desk)
        for value in KINDS + ([5, 3, 6, 2, 6], (5, 3, 6, 2), (5, 3, 6, 2, 7), (5, 3, 5, 2, 5), (5, 3, 6, True, 6), (TOP + 1, 0, TOP + 1, 0, TOP + 1)):
            self.assertEqual(answer(desk.put, value), raised("BadTally", error=tally_error(RIVER, value)))
        for value in ((0,) * 5, (5, 3, 8, 0, 8), (5, 1, 5, 1, 5), (TOP, 1, TOP, 1, TOP), (7, 1, 6, 2, 6)):
            self.assertEqual(answer(desk.put, value), raised("Unfit"))
        self.assertEqual(told_of(desk), before)
        for version, value in enumerate(((0, 2, 0, 2, 0), (TOP, 2, TOP, 2, TOP), (5, 3, 6, 2, 6), (5, 3, 6, 2, 6))):
            self.assertEqual((desk.put(value), desk.tally), (version + 3, value))

    def test_counts_that_would_be_too_great(self):
        desk = Desk(RIVER)
        self.assertEqual((desk.see((0, 3), TOP), desk.tally), (1, (TOP, 0, 0, TOP, 0)))
        for trip in ((0, 3), (0, 2, 4), (1, 3)):
            for times in (1, TOP):
                self.assertEqual(answer(desk.see, trip, times), raised("TooMany", limit=TOP))
        self.assertEqual((desk.see((1, 2, 4), TOP), desk.tally), (2, (TOP,) * 5))
        self.assertEqual((desk.take_back((0, 2, 4), 1), desk.see((0, 2, 4), 1)), (3, 4))
        self.assertEqual((desk.know((0, 2, 4), TOP), desk.rest()), (5, (0, TOP, 0, TOP, 0)))
        self.assertEqual(answer(desk.know, (0, 2, 4), 1), raised("Unfit"))

    def test_what_is_known_is_not_taken_back(self):
        desk = Desk(RIVER)
        desk.put((5, 3, 6, 2, 6))
        desk.know((1, 3), 1)
        self.assertEqual(answer(desk.take_back, (0, 3), 2), raised("Unfit"))
        self.assertEqual((desk.take_back((0, 3), 1), desk.tally, desk.rest()), (3, (4, 3, 6, 1, 6), (4, 2, 6, 0, 6)))
        self.assertEqual(answer(desk.take_back, (1, 3), 1), raised("Unfit"))
        self.assertEqual(answer(desk.take_back, (0, 2, 4), 5), raised("Unfit"))
        self.assertEqual((desk.take_back((0, 2, 4), 4), desk.tally), (4, (0, 3, 2, 1, 2)))

    def test_know_and_doubt(self):
        desk = Desk(RIVER)
        self.assertEqual(answer(desk.know, (0, 3), 1), raised("Unfit"))
        desk.put((5, 3, 6, 2, 6))
        self.assertEqual((desk.know((1, 3), 1), desk.know((0, 2, 4), 3), desk.know((1, 3), 1)), (2, 3, 4))
        self.assertEqual(desk.known, (((0, 2, 4), 3), ((1, 3), 2)))
        self.assertEqual(answer(desk.know, (0, 3), 1), raised("Unfit"))
        self.assertEqual(answer(desk.doubt, (1, 3), 3), raised("Unfit"))
        self.assertEqual(answer(desk.doubt, (0, 3), 1), raised("Unfit"))
        self.assertEqual((desk.doubt((0, 2, 4), 3), desk.known), (5, (((1, 3), 2),)))
        self.assertEqual((desk.doubt((1, 3), 1), desk.doubt((1, 3), 1), desk.known), (6, 7, ()))
        self.assertEqual(answer(desk.doubt, (1, 3), 1), raised("Unfit"))

    def test_see_and_take_back_and_know_and_doubt_leave_all_as_it_was(self):
        chance = random.Random(121)
        for net in desk_nets():
            desk = random_desk(chance, net, 12, 5)
            for _ in range(5):
                trip, times = trip_at(net, chance.randrange(trip_count(net))), chance.randint(1, TOP // 2)
                for edits in ((desk.see, desk.take_back), (desk.know, desk.doubt)):
                    before = desk.tally, desk.known, desk.rest()
                    if answer(edits[0], trip, times)[0] == "returns":
                        edits[1](trip, times)
                    self.assertEqual((desk.tally, desk.known, desk.rest()), before)

    def test_forty_edits_and_one_more(self):
        desk, plain = Desk(RIVER), PlainDesk(RIVER)
        for edit in (("see", (0, 3), 1),) * 20 + (("know", (0, 3), 1),) * 10 + (("put", (20, 0, 0, 20, 0)),) * 10:
            self.assertEqual(answer(getattr(desk, edit[0]), *edit[1:]), plain.edit(*edit))
        for edit, name in ((("see", (0, 3), 1), "TooManyEdits"), (("take_back", (0, 3), 1), "TooManyEdits"), (("know", (0, 3), 1), "TooManyEdits"),
                           (("doubt", (0, 3), 1), "TooManyEdits"), (("put", (20, 0, 0, 20, 0)), "TooManyEdits"), (("see", (0, 3), 0), "Unfit"),
                           (("see", (0, 4), 1), "Unfit"), (("take_back", (0, 3), 11), "Unfit"), (("know", (0, 3), 11), "Unfit"),
                           (("doubt", (0, 3), 11), "Unfit"), (("put", (0,) * 5), "Unfit"), (("put", (0,) * 4), "BadTally"), (("see", (0, 3), TOP), "TooMany")):
            told = answer(getattr(desk, edit[0]), *edit[1:])
            self.assertEqual(told[:2], ("raises", name))
            self.assertEqual(told, plain.edit(*edit))
            self.assertEqual(told_of(desk), plainly_told_of(plain))
        self.assertEqual(answer(desk.redo), raised("NothingToUndo"))
        for _ in range(2):
            self.assertEqual([desk.undo() for _ in range(40)], list(range(39, -1, -1)))
            self.assertEqual(answer(desk.undo), raised("NothingToUndo"))
            self.assertEqual([desk.redo() for _ in range(40)], list(range(1, 41)))
            self.assertEqual(answer(desk.redo), raised("NothingToUndo"))
            self.assertEqual(told_of(desk), plainly_told_of(plain))
        self.assertEqual((desk.undo(), desk.see((1, 3), 1), desk.version), (39, 40, 40))
        self.assertEqual(answer(desk.see, (1, 3), 1), raised("TooManyEdits"))

    def test_an_edit_behind_undo_forgets_those_taken_back(self):
        desk = Desk(RIVER)
        for times in (1, 2, 3):
            desk.see((0, 3), times)
        self.assertEqual((desk.undo(), desk.undo()), (2, 1))
        self.assertEqual(answer(desk.see, (0, 3), 0), raised("Unfit"))
        self.assertEqual(answer(desk.know, (0, 3), 2), raised("Unfit"))
        # What is refused forgets nothing.
        self.assertEqual((desk.redo(), desk.undo(), desk.see((1, 3), 7)), (2, 1, 2))
        self.assertEqual(answer(desk.redo), raised("NothingToUndo"))
        self.assertEqual(desk.log, (("see", (0, 3), 1), ("see", (1, 3), 7)))
        self.assertEqual((desk.undo(), desk.undo()), (1, 0))
        self.assertEqual(answer(desk.undo), raised("NothingToUndo"))
        self.assertEqual((desk.redo(), desk.redo(), desk.tally), (1, 2, (1, 7, 0, 8, 0)))

    def test_what_was_told_does_not_change(self):
        desk = random_desk(random.Random(114), RIVER, 20, 9)
        told = told_of(desk)
        before = copy.deepcopy(told)
        for _ in range(3):
            desk.undo()
        desk.put((50, 0, 20, 30, 20))
        self.assertEqual(told, before)
        self.assertNotEqual(told_of(desk), before)


class Looks(unittest.TestCase):

    def test_as_the_explanations_tell_that_have_the_known_trips(self):
        for net, tally, known, right in known_often()[::2]:
            desk = desk_behind(net, (("put", tally),) + tuple([("know", *pair) for pair in known]))
            self.assertTrue(all([has_known(told, desk.known) for told in right]))
            for question in all_questions(net)[::4] if trip_count(net) else ():
                numbers = numbers_of(question, right)
                self.assertEqual((desk.least(question), desk.most(question)), (min(numbers), max(numbers)))
            self.assertIs(desk.settled(), len(right) == 1)
            for a in range(len(tally)):
                past = [trip for told in right for trip, _ in told if a in trip]
                for b in range(len(tally)):
                    wanted = ("returns", repr(all([b in trip for trip in past]))) if past else raised("Unfit")
                    self.assertEqual(answer(desk.follows, a, b), wanted)

    def test_questions_of_all_kinds(self):
        desk = Desk(RIVER)
        desk.put((5, 3, 6, 2, 6))
        for value in KINDS + (["touch", (1,)], ("touch", ()), ("both", 0, 5), ("both", True, 0), ("along", (0, 4)), ("near", (1,)), ("sure",), desk):
            self.assertIsNotNone(question_error(RIVER, value))
            self.assertEqual(answer(desk.least, value), raised("Unfit"))
            self.assertEqual(answer(desk.most, value), raised("Unfit"))

    def test_roads_of_all_kinds(self):
        desk = Desk(RIVER)
        self.assertEqual(answer(desk.follows, 0, 0), raised("Unfit"))
        desk.put((5, 0, 3, 2, 3))
        for value in NO_INTEGERS + (-1, 5, 10 ** 399):
            self.assertEqual(answer(desk.follows, value, 0), raised("Unfit"))
            self.assertEqual(answer(desk.follows, 0, value), raised("Unfit"))
        for b in range(5):
            self.assertEqual(answer(desk.follows, 1, b), raised("Unfit"))
        self.assertEqual([desk.follows(a, b) for a, b in ((2, 0), (0, 1), (3, 1), (3, 3))], [True, False, False, True])

    def test_where_all_trips_past_a_road_are_known(self):
        desk = Desk(RIVER)
        desk.put((5, 3, 6, 2, 6))
        desk.know((1, 3), 2)
        self.assertEqual([desk.follows(3, b) for b in range(5)], [False, True, False, True, False])
        desk.undo()
        desk.know((1, 3), 1)
        desk.know((0, 3), 1)
        self.assertEqual([desk.follows(3, b) for b in range(5)], [False, False, False, True, False])
        self.assertEqual([desk.follows(0, b) for b in range(5)], [True, False, False, False, False])

    def test_great_counts(self):
        chance = random.Random(115)
        for net in (chain(23, 2), wide(30, 30), chain(12, 5), wide(1, 59)):
            desk = Desk(net)
            for number in range(20):
                trip, times = trip_at(net, chance.randrange(trip_count(net))), chance.randint(1, TOP // 20)
                self.assertEqual((desk.see(trip, times), desk.know(trip, (times + 1) // 2)), (2 * number + 1, 2 * number + 2))
            rest, known = desk.rest(), desk.known
            for question in [random_question(chance, net) for _ in range(9)]:
                self.assertEqual(desk.least(question), taken(question, known) + least(net, rest, question))
                self.assertEqual(desk.most(question), taken(question, known) + most(net, rest, question))
            self.assertIs(desk.settled(), settled(net, rest))
            for a, b in ((0, 1), (1, 0), (len(net[1]) - 1, 0), (0, len(net[1]) - 1)):
                if desk.tally[a]:
                    wanted = all([b in trip for trip, _ in known if a in trip]) and (not rest[a] or follows(net, rest, a, b))
                    self.assertIs(desk.follows(a, b), wanted)

    def test_with_more_known_the_least_is_no_less(self):
        for net, tally, known, _ in known_often()[1::12]:
            desk = desk_behind(net, (("put", tally),))
            for question in all_questions(net)[::5] if trip_count(net) else ():
                low, high = [desk.least(question)], [desk.most(question)]
                self.assertEqual((low, high), ([least(net, tally, question)], [most(net, tally, question)]))
                other = desk.copy()
                for trip, times in known:
                    other.know(trip, times)
                    low.append(other.least(question))
                    high.append(other.most(question))
                self.assertEqual((low, high), (sorted(low), sorted(high, reverse=True)))


class Copies(unittest.TestCase):

    def test_copies_are_apart(self):
        chance = random.Random(116)
        for net in desk_nets():
            desk = random_desk(chance, net, 12, 5)
            for _ in range(min(4, desk.version)):
                desk.undo()
            other, before = desk.copy(), told_of(desk)
            self.assertIsNot(other, desk)
            self.assertEqual(told_of(other), before)
            again = []
            while answer(other.redo)[0] == "returns":
                again.append(told_of(other))
            self.assertEqual(told_of(desk), before)
            other.see(trip_at(net, 0), 1)
            self.assertEqual(told_of(desk), before)
            self.assertEqual(len(again), min(4, len(again[-1][4]) if again else 0))
            for told in again:
                desk.redo()
                self.assertEqual(told_of(desk), told)
            answer(other.undo)
            self.assertEqual(answer(desk.redo), raised("NothingToUndo"))

    def test_edits_of_the_first_one_do_not_change_the_copy(self):
        desk = Desk(RIVER)
        desk.see((0, 3), 2)
        desk.see((0, 3), 3)
        desk.undo()
        other = desk.copy()
        self.assertEqual((desk.see((1, 3), 1), desk.undo(), desk.undo()), (2, 1, 0))
        self.assertEqual((other.version, other.redo(), other.tally), (1, 2, (5, 0, 0, 5, 0)))

    def test_equal(self):
        one, other = Desk(RIVER), Desk(RIVER)
        self.assertIs(one == other, True)
        self.assertIs(one != other, False)
        one.see((0, 3), 2)
        self.assertIs(one == other, False)
        other.see((0, 3), 1)
        other.see((0, 3), 1)
        self.assertEqual(one.tally, other.tally)
        # The same tally, but other edits.
        self.assertIs(one == other, False)
        other.undo()
        other.undo()
        other.see((0, 3), 2)
        self.assertIs(one == other, True)
        one.see((1, 3), 1)
        one.undo()
        # Edits that were taken back stand in no log.
        self.assertIs(one == other, True)
        self.assertIs(Desk((2, ((0, 1),))) == Desk((2, ((0, 1), (0, 1)))), False)
        self.assertIs(Desk(RIVER) == Desk((5, RIVER[1])), False)

    def test_equal_to_nothing_else(self):
        desk = Desk(RIVER)
        for value in KINDS + (told_of(desk), RIVER, (), PlainDesk(RIVER)):
            self.assertIs(desk == value, False)
            self.assertIs(value == desk, False)
            self.assertIs(desk != value, True)


class DeskBehind(unittest.TestCase):

    def test_of_logs(self):
        chance = random.Random(117)
        for net in desk_nets():
            for most in (4, TOP):
                desk = random_desk(chance, net, 30, most)
                other = desk_behind(net, desk.log)
                self.assertIs(other == desk, True)
                self.assertEqual(told_of(other), told_of(desk))
                self.assertEqual(answer(other.redo), raised("NothingToUndo"))
                while other.version:
                    desk.undo()
                    other.undo()
                    self.assertEqual(told_of(other), told_of(desk))
                    self.assertEqual(told_of(desk_behind(net, desk.log)), told_of(desk))

    def test_as_a_plain_desk_tells(self):
        chance = random.Random(118)
        for net in desk_nets():
            for _ in range(20):
                plain, edits, wanted = PlainDesk(net), [], None
                desk = random_desk(chance, net, 3, 3)
                for place in range(chance.randint(1, 8)):
                    edits.append(random_edit(chance, desk, 3))
                    if wanted is None and plain.edit(*edits[-1])[0] == "raises":
                        wanted = place
                told = answer(desk_behind, net, tuple(edits))
                if wanted is None:
                    self.assertEqual(told_of(desk_behind(net, tuple(edits))), plainly_told_of(plain))
                else:
                    self.assertEqual(told, raised("BadLog", place=wanted))

    def test_no_tuple(self):
        for value in KINDS + ([("see", (0, 3), 1)], "see", Desk(RIVER)):
            if not isinstance(value, tuple):
                self.assertEqual(answer(desk_behind, RIVER, value), raised("BadLog", place=0))

    def test_no_edits(self):
        for value in KINDS + (("undo",), ("redo",), ("see",), ("see", (0, 3)), ("see", (0, 3), 1, 1), ["see", (0, 3), 1], ("put",), ("put", (0,) * 5, 1),
                              ("away", (0, 3), 1), ("copy",), ("rest",), ("least", ("both", 0, 3)), ("See", (0, 3), 1), ("see", [0, 3], 1),
                              ("see", (0, 3), True), ("see", (0, 4), 1), ("put", [0] * 5), ("put", (1, 0, 0, 0, 0)), ("know", (0, 3), 2), ("doubt", (0, 3), 1),
                              ("take_back", (1, 3), 1), ("see", (0,) * 5), ("undo", (2, 0, 0, 2, 0)), ("know", (0, 3)), (("see",), (0, 3), 1), ("follows", 0, 3)):
            for ahead in ((), (("see", (0, 3), 1),), (("see", (0, 3), 1), ("put", (1, 0, 0, 1, 0)))):
                for behind in ((), (None,)):
                    self.assertEqual(answer(desk_behind, RIVER, ahead + (value,) + behind), raised("BadLog", place=len(ahead)))

    def test_no_words_of_edits_where_all_else_would_do(self):
        ahead = (("see", (0, 3), 3), ("know", (0, 3), 2))
        for word in ("away", "undo", "Put", "settled", "", None, 0, ("put",), ["put"], Desk(RIVER)):
            for value in ((word, (0, 3), 1), (word, (4, 0, 0, 4, 0))):
                self.assertEqual(answer(desk_behind, RIVER, ahead + (value,)), raised("BadLog", place=2))
        for word in EDITS[:4]:
            self.assertEqual(desk_behind(RIVER, ahead + ((word, (0, 3), 1),)).version, 3)
        self.assertEqual(desk_behind(RIVER, ahead + (("put", (4, 0, 0, 4, 0)),)).version, 3)

    def test_too_many_edits(self):
        edits = (("see", (0, 3), 1),) * 40
        self.assertEqual(desk_behind(RIVER, edits).version, 40)
        for more in (1, 2, 100):
            self.assertEqual(answer(desk_behind, RIVER, edits + edits[:1] * more), raised("BadLog", place=40))
        self.assertEqual(answer(desk_behind, RIVER, edits[:39] + (("put", 5),) + edits), raised("BadLog", place=39))


class Calls(unittest.TestCase):

    def test_by_place_by_name_and_again(self):
        chance = random.Random(119)
        for net in desk_nets()[::3]:
            desk = random_desk(chance, net, 12, 5)
            check_calls(self, lambda net, value: told_of(desk_behind(net, value)), ("net", "value"), (net, desk.log))
            for value in KINDS:
                check_calls(self, desk_behind, ("net", "value"), (value, desk.log))
                check_calls(self, lambda net: told_of(Desk(net)), ("net",), (value,))
            for question in all_questions(net)[::9] + [None, ("touch", [0])]:
                for function in (desk.least, desk.most):
                    check_calls(self, function, ("question",), (question,))
            for a, b in ((0, len(net[1]) - 1), (len(net[1]) - 1, 0), (0, 0), (None, 0), ((), [])):
                check_calls(self, desk.follows, ("a", "b"), (a, b))

    def test_edits_by_name(self):
        for edits in ((("see", (0, 3), 2), ("know", (0, 3), 2), ("doubt", (0, 3), 1), ("take_back", (0, 3), 1)), (("see", (0, 3), 0),)):
            one, other = Desk(RIVER), Desk(net=RIVER)
            for word, trip, times in edits:
                self.assertEqual(answer(getattr(one, word), trip, times), answer(getattr(other, word), times=times, trip=trip))
                self.assertEqual(told_of(one), told_of(other))
            self.assertEqual(answer(one.put, (3, 1, 4, 0, 4)), answer(other.put, tally=(3, 1, 4, 0, 4)))
            self.assertEqual(told_of(one), told_of(other))

    def test_other_desks_between(self):
        chance = random.Random(120)
        desks = [(Desk(net), PlainDesk(net)) for net in desk_nets()]
        for _ in range(600):
            desk, plain = chance.choice(desks)
            word, *values = random_edit(chance, desk, 4)
            self.assertEqual(answer(getattr(desk, word), *values), plain.edit(word, *values))
        for desk, plain in desks:
            self.assertEqual(told_of(desk), plainly_told_of(plain))

    def test_what_is_handed_in_is_not_changed(self):
        for value in ([0, 3], [[0, 3]], {"trip": [0, 3]}, ([0, 3], [1])):
            handed = copy.deepcopy(value)
            desk = Desk(RIVER)
            for word in EDITS[:4]:
                answer(getattr(desk, word), handed, handed)
            for word in ("put", "least", "most"):
                answer(getattr(desk, word), handed)
            answer(desk.follows, handed, handed)
            answer(Desk, handed)
            answer(desk_behind, RIVER, handed)
            answer(desk_behind, RIVER, (handed,))
            self.assertEqual(handed, value)


if __name__ == "__main__":
    unittest.main()
