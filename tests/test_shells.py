"""Shells: [M1] to [M5]."""

import random
import unittest
from functools import cache

from suretrips.anynumber import with_number
from suretrips.booktexts import book_text, read_book
from suretrips.desks import Desk
from suretrips.errors import TripError
from suretrips.explaining import explained
from suretrips.fillings import narrowed
from suretrips.following import followers
from suretrips.nets import trip_at, trip_count
from suretrips.shells import Shell
from suretrips.stretches import sure_stretches
from suretrips.verdicts import answered, verdict
from tests.common import (KINDS, TOP, Fault, TextReader, answer, asked_question, chain, check_calls, is_question,
                          random_known_book, random_question, random_saying, some_explained)

ALONE = ("undo", "redo", "tally", "known", "explain", "sure", "answers", "text")
AHEAD = ("book", "see", "away", "know", "doubt", "least", "most", "with", "followers", "verdict")
HALL = ("places hall yard street; in street; out yard; road a: street > hall 3; road b: street > hall 2; "
        "road c: hall > yard 4; road d: hall > yard ?; ask least both a c;")
RIVER = ("places s h k y; in s; out y; road a: s > h 5; road b: s > h 3; road c: h > k 6; road d: h > y 2; "
         "road e: k > y 6; ")


class PlainShell:
    """A shell that finds out from the functions of the other parts what it has to answer."""

    def __init__(self):
        self.book = self.desk = None

    def say(self, line):
        if not isinstance(line, str):
            return "what"
        word, blank, text = line.partition(" ")
        if word not in (AHEAD if blank else ALONE):
            return "what"
        if word != "book" and self.book is None:
            return "no book"
        try:
            return self.behind(word, text) if blank else self.alone(word)
        except TripError as error:
            return "error " + type(error).__name__
        except Fault as fault:
            return "error " + fault.args[0][1]

    def opened(self, text):
        book = read_book(text)
        ranges = narrowed(book[2], book[3])
        desk = Desk(book[2])
        if any([low != high for low, high in ranges]):
            raise Fault(("raises", "Unfit"))
        desk.put(tuple([low for low, _ in ranges]))
        for trip, times in book[4]:
            desk.know(trip, times)
        return book, desk

    def version(self):
        return f"version {self.desk.version}"

    def row(self, told):
        names = self.book[1]
        return ", ".join([" ".join([str(times)] + [names[road] for road in trip]) for trip, times in told]) or "none"

    def alone(self, word):
        names, desk = self.book[1], self.desk
        if word in ("undo", "redo"):
            getattr(desk, word)()
            return self.version()
        if word == "tally":
            return " ".join([name + "=" + str(count) for name, count in zip(names, desk.tally)])
        if word == "sure":
            return " ".join([">".join([names[road] for road in part]) for part in sure_stretches(desk.net, desk.tally)]) or "none"
        if word == "answers":
            return " | ".join(answered(self.book)) or "none"
        if word == "text":
            return book_text(self.book)
        return self.row(desk.known if word == "known" else explained(desk.net, desk.tally))

    def read(self, text, *parts):
        """The parts of text, each as the word tells that is handed in; nothing may come behind them."""
        reader, names, found = TextReader(text), self.book[1], []
        for part in parts:
            if part == "number":
                found.append(reader.number(TOP))
            elif part == "saying":
                found.append(reader.saying(names, 0))
            else:
                found.append({"trip": reader.several, "road": reader.one, "question": reader.question}[part](names))
        sort, _, place = reader.row[reader.at]
        if sort != "end" or place < len(text):
            reader.fail("BadText", place=place)
        question = found[-1] if parts[-1] == "question" else None
        if parts[-1] == "saying":
            question = asked_question(("say", found[-1]))
        if question is not None and not is_question(self.desk.net, question):
            reader.fail("Unfit")
        return found

    def behind(self, word, text):
        if word == "book":
            self.book, self.desk = self.opened(text)
            return self.version()
        names, desk = self.book[1], self.desk
        if word in ("see", "away", "know", "doubt"):
            times, trip = self.read(text, "number", "trip")
            getattr(desk, "take_back" if word == "away" else word)(trip, times)
            return self.version()
        if word in ("least", "most"):
            return str(getattr(desk, word)(*self.read(text, "question")))
        if word == "with":
            number, question = self.read(text, "number", "question")
            return self.row(with_number(desk.net, desk.tally, question, number))
        if word == "verdict":
            return verdict(desk.net, desk.tally, *self.read(text, "saying"))
        found = followers(desk.net, desk.tally, *self.read(text, "road"))
        return " ".join([names[other] for other in found]) or "none"


def words_of(names, told):
    """Questions, sayings and asks as the words of a line."""
    word, *more = told
    if word in ("along", "touch"):
        return " ".join([word] + [names[road] for road in more[0]])
    if word in ("both", "follow"):
        return " ".join([word] + [names[road] for road in more])
    if word == "not":
        return "not " + words_of(names, more[0])
    return f"{word} {more[0]} {words_of(names, more[1])}"


def random_line(chance, book, most):
    """A line about book, which may be refused, drawn by chance."""
    _, names, net, *_ = book
    word = chance.choice(ALONE + AHEAD[1:] * 2)
    if word in ALONE:
        return word
    if word in ("see", "away", "know", "doubt"):
        trip = trip_at(net, chance.randrange(trip_count(net)))
        text = " ".join([str(chance.choice((1, 1, 2, chance.randint(0, most))))] + [names[road] for road in trip])
    elif word in ("least", "most"):
        text = words_of(names, random_question(chance, net))
    elif word == "with":
        text = f"{chance.randint(0, most)} {words_of(names, random_question(chance, net))}"
    elif word == "followers":
        text = chance.choice(names)
    else:
        text = words_of(names, random_saying(chance, net, most))
    if chance.random() < 0.15:
        parts = text.split(" ")
        at = chance.randrange(len(parts))
        spoilt = chance.choice(("", ";", "07", "zz", "in", "5", "not", chance.choice(names), chance.choice(book[0]), str(TOP + 1), ","))
        parts = chance.choice((parts[:at], parts[:at] + [spoilt] + parts[at + 1:], parts[:at] + [spoilt] + parts[at:]))
        text = " ".join(parts)
    return f"{word} {text}"


@cache
def shell_books():
    """Books that shells take, with asks and known trips."""
    chance = random.Random(131)
    books = []
    for net, tally, right in some_explained()[::3]:
        if trip_count(net):
            books.append(random_known_book(chance, net, tally, chance.choice(right)))
    return books


class AsTheOtherPartsSay(unittest.TestCase):

    def test_lines_about_books(self):
        chance = random.Random(132)
        seen = {}
        for book in shell_books():
            shell, plain = Shell(), PlainShell()
            line = "book " + book_text(book)
            self.assertEqual(shell.say(line), f"version {1 + len(book[4])}")
            self.assertEqual(plain.say(line), f"version {1 + len(book[4])}")
            for _ in range(60):
                line = random_line(chance, book, 5)
                told = shell.say(line)
                self.assertIsInstance(told, str)
                wanted = plain.say(line)
                self.assertEqual(told, wanted, line)
                seen[line.split(" ")[0], told.split(" ")[0] == "error"] = True
        for word in AHEAD[1:] + ALONE:
            self.assertIn((word, False), seen)
        for word in AHEAD[1:] + ALONE[1:2]:
            self.assertIn((word, True), seen)

    def test_books_told_one_behind_another(self):
        chance = random.Random(133)
        shell, plain = Shell(), PlainShell()
        for book in shell_books():
            text = book_text(book)
            for line in ("book " + text[:chance.randint(0, len(text))], "tally", "book " + text, "text", "answers", "known", "undo", "tally", "redo"):
                self.assertEqual(shell.say(line), plain.say(line))


class Lines(unittest.TestCase):

    def test_no_lines(self):
        for shell in (Shell(), opened(HALL)):
            for line in KINDS + tuple(AHEAD) + tuple([word + " " for word in ALONE]) + tuple([" " + word for word in ALONE]):
                self.assertEqual(shell.say(line), "what")
            for line in ("tally ;", "undo 1", "Tally", "TALLY", "tally\n", "\ntally", "put 3", "take_back 1 a c", "see\n1 a c", "seen 1 a c", "see,1 a c",
                         " see 1 a c", "Book " + HALL, "bookplaces", "book\n" + HALL, "say least 1 both a c", "ask sure", "settled", "rest", "copy",
                         "tallyknown", "tally known", "followers\ta", "verdict,", "likely least 3 both a c", ["tally"], ("tally",), b"tally", shell):
                self.assertEqual(shell.say(line), "what", line)

    def test_no_book(self):
        shell = Shell()
        for line in ALONE + tuple([word + " " for word in AHEAD[1:10]]) + ("see 1 a c", "least near", "with 07", "verdict ,", "see  ", "followers in"):
            self.assertEqual(shell.say(line), "no book", line)
        for line in ("book ", "book places a;", "book 5", "book  "):
            self.assertEqual(shell.say(line), "error BadText")
            self.assertEqual(shell.say("tally"), "no book")
        self.assertEqual(shell.say("book" + " " * 9 + HALL), "version 1")
        self.assertEqual(shell.say("tally"), "a=3 b=2 c=4 d=1")

    def test_what_each_line_answers(self):
        shell = opened(HALL)
        for line, wanted in (
                ("undo", "version 0"), ("tally", "a=0 b=0 c=0 d=0"), ("redo", "version 1"), ("redo", "error NothingToUndo"),
                ("known", "none"), ("know 1 b c", "version 2"), ("know 1 a d", "version 3"), ("known", "1 a d, 1 b c"), ("explain", "3 a c, 1 b c, 1 b d"),
                ("least both a c", "2"), ("most both a c", "2"), ("with 3 both a c", "3 a c, 1 b c, 1 b d"), ("with 1 both a c", "error Unfit"),
                ("doubt 1 a d", "version 4"), ("most both a c", "3"), ("away 1 a d", "version 5"), ("tally", "a=2 b=2 c=4 d=0"), ("sure", "a>c b>c"),
                ("followers a", "c"), ("followers c", "none"), ("followers d", "error Unfit"), ("see 2 b d", "version 6"), ("tally", "a=2 b=4 c=4 d=2"),
                ("verdict follow d b", "perhaps"), ("verdict not most 5 touch a b", "surely"), ("verdict most 5 touch b a", "never"),
                ("answers", "2"), ("text", book_text(read_book(HALL)))):
            self.assertEqual(shell.say(line), wanted, line)

    def test_blanks_and_line_feeds_between_tokens(self):
        shell = opened(HALL)
        for line, wanted in (("least  both\na   c ", "2"), ("see \n 1\n\na c\n", "version 2"), ("see 1a c", "version 3"), ("with 5both a c", "5 a c, 1 b c, 1 b d"),
                             ("verdict  not\nnot most 9 both a c", "surely"), ("followers \na", "none"), ("see 1 ac", "error NoName")):
            self.assertEqual(shell.say(line), wanted, line)

    def test_rows_that_are_none(self):
        shell = opened("places a b c; in a; out c; road r: a > b 0; road s: b > c ?;")
        for line in ("known", "explain", "sure", "answers", "with 0 touch r s"):
            self.assertEqual(shell.say(line), "none", line)
        self.assertEqual((shell.say("tally"), shell.say("least touch r"), shell.say("verdict follow r s")), ("r=0 s=0", "0", "surely"))
        self.assertEqual((shell.say("followers r"), shell.say("see 4 r s"), shell.say("followers r")), ("error Unfit", "version 2", "s"))
        self.assertEqual(opened("places a b; in a; out b; road r: a > b 4;").say("followers r"), "none")

    def test_answers_are_those_of_the_book_as_it_was_read(self):
        shell = opened(RIVER + "known 2: b d; ask least along a c e; ask most both a d; ask sure; ask followers a; say follow a c; ask followers b;")
        wanted = "5 | 0 | a c e, b c e, d | c e | surely | -"
        for line, told in (("answers", wanted), ("known", "2 b d"), ("see 4 a d", "version 3"), ("undo", "version 2"), ("undo", "version 1"), ("undo", "version 0"),
                           ("least along a c e", "0"), ("answers", wanted), ("redo", "version 1"), ("least along a c e", "3"), ("answers", wanted)):
            self.assertEqual(shell.say(line), told, line)

    def test_known_trips_count_in_least_and_most_alone(self):
        shell, other = opened(RIVER + "known 2: b d;"), opened(RIVER)
        for line in ("tally", "explain", "sure", "followers d", "followers a", "verdict follow a c", "verdict least 4 along a c e", "with 3 along a c e"):
            self.assertEqual(shell.say(line), other.say(line))
        self.assertEqual((shell.say("least along a c e"), other.say("least along a c e")), ("5", "3"))
        self.assertEqual((shell.say("most both a d"), other.say("most both a d")), ("0", "2"))


def opened(text):
    """A shell with the book that text tells."""
    shell = Shell()
    told = shell.say("book " + text)
    if not told.startswith("version "):
        raise AssertionError(told)
    return shell


def all_told(shell):
    """What a shell answers to looks."""
    return [shell.say(line) for line in ("tally", "known", "explain", "sure", "answers", "text")]


class Errors(unittest.TestCase):

    def check(self, shell, lines, name):
        before = all_told(shell)
        for line in lines:
            self.assertEqual(shell.say(line), "error " + name, line)
        self.assertEqual(all_told(shell), before)

    def test_of_the_lines(self):
        shell = opened(HALL)
        shell.say("know 2 a c")
        self.check(shell, ("see ", "see 1", "see a c", "see 01 a c", "see 1 a c;", "see 1: a c", "see 1 a, c", "see 1 a in", "away 1 a > c", "know 1 a c 5",
                           "least ", "least near a", "least both a", "least both a c a", "least along", "most touch a 5", "most touch a;", "with both a c", "with 3",
                           "with 3 3 both a c", "followers ", "followers a b", "followers 5", "followers a;", "verdict ", "verdict sure", "verdict least both a c",
                           "verdict follow a", "verdict follow a b c", "verdict not", "verdict say follow a b", "least sure", "doubt 1 abcdefghi"), "BadText")
        self.check(shell, ("see 1 a z", "see 0 z", "away 1 hall", "know 1 a c e", "doubt 1 yard c", "least both a z", "most along a c z", "with 3 touch z",
                           "followers hall", "verdict follow z", "verdict not least 3 both z", "see 1 z 5"), "NoName")
        many = str(TOP + 1)
        self.check(shell, (f"see {many} a c", f"away {many}", f"know {many} a c", f"doubt {many} z", f"with {many} both a c", f"verdict least {many} both a c",
                           f"verdict not most {10 ** 31 - 1}", "verdict " + "not " * 9 + "follow a c", "verdict " + "not " * 9, f"see {TOP} a c"), "TooMany")
        self.check(shell, ("see 0 a c", "see 1 a", "see 1 c a", "see 1 a b", "away 0 a c", "away 9 a c", "away 2 a c", "know 3 a c", "know 1 b", "doubt 3 a c",
                           "doubt 1 a d", "least along a b", "most along c a", "least touch a a", "most touch c a c", "with 3 along a b", "with 4 both a c",
                           "with 1 both a c", "with 0 touch c c", "with 4 touch c c", "with 0 along a b", "with 4 along c a", f"with {TOP} both a c", "verdict least 3 along a b", "verdict not most 3 touch a a"), "Unfit")
        self.assertEqual(shell.say(f"verdict {'not ' * 8}least {TOP} both a c"), "never")

    def test_undo_and_redo(self):
        shell = opened(HALL)
        self.check(shell, ("redo",), "NothingToUndo")
        self.assertEqual(shell.say("undo"), "version 0")
        self.assertEqual(shell.say("undo"), "error NothingToUndo")
        self.assertEqual(shell.say("least along a b"), "error Unfit")
        self.assertEqual(shell.say("see 0 a c"), "error Unfit")
        # What was refused forgets nothing of what was taken back.
        self.assertEqual((shell.say("redo"), shell.say("tally")), ("version 1", "a=3 b=2 c=4 d=1"))
        self.assertEqual((shell.say("undo"), shell.say("see 1 a d"), shell.say("redo")), ("version 0", "version 1", "error NothingToUndo"))

    def test_forty_edits_and_one_more(self):
        shell = opened(HALL)
        for version in range(2, 41):
            self.assertEqual(shell.say("see 1 a c"), f"version {version}")
        self.check(shell, ("see 1 a c", "away 1 a c", "know 1 a c"), "TooManyEdits")
        self.check(shell, ("doubt 1 a c", "see 0 a c"), "Unfit")
        self.assertEqual([shell.say("undo") for _ in range(41)], [f"version {version}" for version in range(39, -1, -1)] + ["error NothingToUndo"])
        self.assertEqual([shell.say("redo") for _ in range(41)], [f"version {version}" for version in range(1, 41)] + ["error NothingToUndo"])

    def test_books_that_are_refused(self):
        head = "places a b c; in a; out c; "
        for shell in (Shell(), opened(HALL)):
            for text, name in (("", "BadText"), ("places a;", "BadText"), (head, "BadText"), ("places a b a;", "Taken"), (head + "road a", "Taken"),
                               (head + "road r: d", "NoName"), (head + "road r: b > b 5;", "Ring"), (head + f"road r: a > b {10 ** 28 + 1}", "TooMany"),
                               (head + "road r: a > b 5..4;", "Unfit"), (head + "road r: a > c 0..1;", "Unfit"), (head + "road r: a > c ?;", "Unfit"),
                               (head + "road r: a > b 1; road s: b > c 2;", "Unfit"), (head + "road r: a > b 1; road s: b > c 1; known 2: r s;", "Unfit"),
                               (head + "road r: a > c 50; " + "known 1: r;" * 40, "TooManyEdits"), (head + "road r: a > c 39; " + "known 1: r;" * 40, "Unfit"),
                               (head + "road r: a > c 4; known 0: r;", "Unfit"), (head + "road r: a > c 4; ask least touch r r;", "Unfit"),
                               (head + "road r: a > c 4;" + "ask sure;" * 41, "TooMany"), (head + "road r: a > c 4; say " + "not " * 9, "TooMany")):
                before = all_told(shell)
                self.assertEqual(shell.say("book " + text), "error " + name, text)
                self.assertEqual(all_told(shell), before)
        self.assertEqual(shell.say("see 1 a c"), "version 2")

    def test_a_book_in_the_place_of_another_one(self):
        shell = opened(HALL)
        shell.say("see 4 a d")
        shell.say("undo")
        text = "places a b c; in a; out c; road r: a > c 50; " + "known 1: r;" * 39
        self.assertEqual(shell.say("book " + text), "version 40")
        self.assertEqual([shell.say(line) for line in ("tally", "known", "redo", "see 1 r", "least touch r", "followers a", "answers")],
                         ["r=50", "39 r", "error NothingToUndo", "error TooManyEdits", "50", "error NoName", "none"])
        self.assertEqual(shell.say("book " + HALL), "version 1")
        self.assertEqual((shell.say("tally"), shell.say("redo"), shell.say("known")), ("a=3 b=2 c=4 d=1", "error NothingToUndo", "none"))


class Great(unittest.TestCase):

    def test_great_counts_and_nets(self):
        many, roads = chain(23, 2)
        places = " ".join([f"p{place}" for place in range(many)])
        lines = "".join([f"road r{road}: p{foot} > p{head} {10 ** 28 if road % 2 else 10 ** 27}; " for road, (foot, head) in enumerate(roads)])
        shell, plain = Shell(), PlainShell()
        text = f"book places {places}; in p0; out p23; {lines} ask least both r1 r45; ask sure; say follow r0 r45; known 7: " + " ".join(
            [f"r{road}" for road in range(0, 46, 2)]) + ";"
        self.assertEqual(shell.say(text), "error BadText")
        asks = text[text.index("ask"):text.index("known")]
        text = text.replace(asks, "") + asks
        for line in (text, "tally", "known", "least both r1 r45", "most both r0 r45", "explain", "sure", "answers", "followers r0", "with 8 both r0 r45",
                     "verdict follow r0 r45", "text", "undo", "undo", "redo"):
            self.assertEqual(shell.say(line), plain.say(line), line)


class Calls(unittest.TestCase):

    def test_looks_change_nothing(self):
        chance = random.Random(134)
        for book in shell_books()[::4]:
            shell = opened(book_text(book))
            for _ in range(40):
                line = random_line(chance, book, 5)
                if line.split(" ")[0] not in ("see", "away", "know", "doubt", "undo", "redo"):
                    before = all_told(shell)
                    check_calls(self, shell.say, ("line",), (line,))
                    self.assertEqual(all_told(shell), before)

    def test_any_values(self):
        shell = opened(HALL)
        before = all_told(shell)
        for value in KINDS:
            check_calls(self, shell.say, ("line",), (value,))
        for word in ALONE[2:] + AHEAD[:10]:
            for value in KINDS:
                if isinstance(value, str):
                    told = answer(shell.say, word + " " + value)
                    self.assertEqual(told[0], "returns")
        self.assertEqual(all_told(shell), before)

    def test_other_shells_between(self):
        chance = random.Random(135)
        books = shell_books()[::3]
        pairs = [(book, Shell(), PlainShell()) for book in books]
        for book, shell, plain in pairs:
            self.assertEqual(shell.say("book " + book_text(book)), plain.say("book " + book_text(book)))
        for _ in range(500):
            book, shell, plain = chance.choice(pairs)
            line = random_line(chance, book, 4)
            self.assertEqual(shell.say(line), plain.say(line))


if __name__ == "__main__":
    unittest.main()
