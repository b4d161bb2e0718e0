"""The texts of books: [J5] to [J7], and what [J9] says of them."""

import random
import unittest
from functools import cache

from suretrips.booktexts import book_text, read_book
from suretrips.fillings import holes_error
from suretrips.nets import net_error, trip_error
from suretrips.questions import question_error
from suretrips.verdicts import saying_error
from tests.common import (KINDS, TOP, WORDS, answer, asked_question, book_of, chain, check_calls, raised, random_book,
                          read_as_told, tokens_told)

HEAD = "places a b c; in a; out c; "
ROADS = "road r: a > b 5; road s: b > c ?; road t: a > c 1..2; "
HOLE = 10 ** 28


@cache
def some_books():
    chance = random.Random(83)
    return [random_book(chance, chance.randint(2, 6), 7, 5) for _ in range(120)]


@cache
def great_books():
    """Books as great as they may be: of many places, of sixty roads, of forty asks."""
    chance = random.Random(84)
    books = [random_book(chance, 24, 60, 40) for _ in range(12)]
    net = chain(23, 2)
    names = tuple([f"p{place}" for place in range(24)]), tuple([f"r{road}" for road in range(46)])
    asks = (("say", ("not", ("follow", 0, 45))), ("most", ("along", tuple(range(0, 46, 2)))), ("sure",), ("followers", 9)) * 10
    books.append((*names, net, ((TOP // 100, None),) * 46, ((tuple(range(1, 46, 2)), TOP),) * 30, asks))
    return books


def parts_of(text):
    """The texts of the tokens of text."""
    return [part for _, part, _ in tokens_told(text)[0]]


def set_out(chance, parts):
    """The tokens, with blanks and line feeds by chance, and at least where they need them."""
    text = parts[0]
    for ahead, part in zip(parts, parts[1:]):
        least = ahead[-1].isalnum() and part[0].isalnum() and not (ahead.isdigit() and part[0].isalpha())
        text += chance.choice((" ", "\n", "  \n ") if least else ("", " ", "\n", "   "))
        text += part
    return text + chance.choice(("", " ", "\n"))


def in_lines(text):
    """The tokens of text, parted behind each ";"."""
    lines = [[]]
    for part in parts_of(text):
        lines[-1].append(part)
        if part == ";":
            lines.append([])
    return lines[:-1]


class Texts(unittest.TestCase):

    def check(self, book, lines):
        self.assertEqual(book_text(book).split("\n"), lines)
        self.assertEqual(read_book(book_text(book)), book)

    def test_all_sorts_of_lines(self):
        net = (4, ((0, 1), (0, 2), (1, 2), (1, 3), (2, 3)))
        head = (("hall", "b", "c9", "outs"), ("d", "e", "f", "g", "h1234567"), net)
        holes = ((0, None), (1, None), (0, 0), (3, 3), (0, HOLE))
        known = (((0, 3), 1), ((0, 2, 4), TOP), ((0, 3), 1))
        asks = (("least", ("along", (0, 2, 4))), ("most", ("touch", (0, 4))), ("most", ("both", 4, 0)), ("followers", 4), ("sure",),
                ("say", ("least", 0, ("along", (1,)))), ("say", ("not", ("most", TOP, ("both", 3, 3)))),
                ("say", ("not", ("not", ("follow", 0, 4)))), ("say", ("follow", 1, 1)), ("least", ("touch", (2,))))
        self.check((*head, holes, known, asks), [
            "places hall b c9 outs;", "in hall;", "out outs;", "road d: hall > b ?;", "road e: hall > c9 1..;",
            "road f: b > c9 0;", "road g: b > outs 3;", f"road h1234567: c9 > outs 0..{HOLE};",
            "known 1: d g;", f"known {TOP}: d f h1234567;", "known 1: d g;",
            "ask least along d f h1234567;", "ask most touch d h1234567;", "ask most both h1234567 d;", "ask followers h1234567;",
            "ask sure;", "say least 0 along e;", f"say not most {TOP} both g g;", "say not not follow d h1234567;", "say follow e e;",
            "ask least touch f;"])

    def test_the_least_book(self):
        self.check((("a", "b"), ("c",), (2, ((0, 1),)), ((2, 7),), (), ()), ["places a b;", "in a;", "out b;", "road c: a > b 2..7;"])
        self.check((("a", "b", "d"), ("c",), (3, ((0, 1),)), ((HOLE, None),), (), ()),
                   ["places a b d;", "in a;", "out d;", f"road c: a > b {HOLE}..;"])

    def test_what_is_written_is_read(self):
        for book in some_books() + great_books():
            text = book_text(book)
            self.assertEqual(read_book(text), book)
            self.assertEqual(book_text(read_book(text)), text)
            self.assertEqual(tokens_told(text)[1], None)
            self.assertTrue(all([line.endswith(";") and "  " not in line for line in text.split("\n")]))

    def test_what_is_read_is_a_book(self):
        for book in some_books():
            places, names, net, holes, known, asks = read_book(book_text(book))
            self.assertIsNone(net_error(net))
            self.assertIsNone(holes_error(net, holes))
            self.assertEqual((len(places), len(names)), (net[0], len(net[1])))
            self.assertEqual([trip_error(net, trip) for trip, _ in known], [None] * len(known))
            for ask in asks:
                if ask[0] == "say":
                    self.assertIsNone(saying_error(net, ask[1]))
                if asked_question(ask) is not None:
                    self.assertIsNone(question_error(net, asked_question(ask)))


class OtherWords(unittest.TestCase):

    def test_more_blanks_and_line_feeds(self):
        chance = random.Random(85)
        for book in some_books() + great_books():
            parts = parts_of(book_text(book))
            for _ in range(2):
                self.assertEqual(read_book(set_out(chance, parts)), book)
            self.assertEqual(read_book(" \n" * 50 + "\n".join(parts) + " " * 200), book)

    def test_places_told_in_another_order(self):
        chance = random.Random(86)
        moved = 0
        for book in some_books():
            lines = in_lines(book_text(book))
            places = lines[0][1:-1]
            chance.shuffle(places)
            text = set_out(chance, sum([["places"] + places + [";"]] + lines[1:], []))
            told = read_book(text)
            self.assertEqual(("returns", repr(told)), read_as_told(text))
            # Roads keep their order and their names, so only places may be numbered otherwise.
            self.assertEqual(told[1:2] + told[3:], book[1:2] + book[3:])
            self.assertEqual({(told[0][foot], told[0][head]) for foot, head in told[2][1]},
                             {(book[0][foot], book[0][head]) for foot, head in book[2][1]})
            self.assertEqual(read_book(book_text(told)), told)
            moved += told[0] != book[0]
        self.assertGreater(moved, 20)

    def test_places_are_numbered_in_the_order_in_which_they_are_told_as_far_as_roads_let(self):
        for told, order in (("a b c d e", "abcde"), ("e d c b a", "adcbe"), ("a d b c e", "adbce")):
            text = f"places {told}; in a; out e; road r: a > b 1;"
            self.assertEqual(read_book(text)[0], tuple(order))
        for roads, order in ((("c > b",), "acbde"), (("d > b",), "acdbe"), (("d > c", "c > b"), "adcbe"), (("c > b", "d > b"), "acdbe"),
                             (("d > b", "a > e"), "acdbe"), (("d > e", "b > d"), "abcde"), (("a > b", "d > c"), "abdce")):
            lines = "".join([f"road r{at}: {road} 1;" for at, road in enumerate(roads)])
            text = f"places a b c d e; in a; out e; {lines}"
            self.assertEqual(read_book(text)[0], tuple(order))
            self.assertEqual(("returns", repr(read_book(text))), read_as_told(text))

    def test_roads_of_touch_are_put_in_order(self):
        self.assertEqual(read_book(HEAD + ROADS + "ask least touch t r s;")[5], (("least", ("touch", (0, 1, 2))),))
        self.assertEqual(read_book(HEAD + ROADS + "say most 3 touch t r;")[5], (("say", ("most", 3, ("touch", (0, 2)))),))
        self.assertEqual(read_book(HEAD + ROADS + "ask most both t r; ask most along r s;")[5],
                         (("most", ("both", 2, 0)), ("most", ("along", (0, 1)))))

    def test_holes(self):
        for words, hole in (("?", (0, None)), ("0", (0, 0)), ("7", (7, 7)), ("7..", (7, None)), ("0..", (0, None)), ("7..7", (7, 7)),
                            ("0..9", (0, 9)), ("7 .. 9", (7, 9)), (str(HOLE), (HOLE, HOLE)), (f"0..{HOLE}", (0, HOLE))):
            self.assertEqual(read_book(HEAD + f"road r: a > c {words};")[3], (hole,))


class Faults(unittest.TestCase):

    def check(self, text, name, **fields):
        self.assertEqual(answer(read_book, text), raised(name, **fields), text)
        self.assertEqual(read_as_told(text), raised(name, **fields), text)

    def test_no_string(self):
        for value in KINDS:
            if isinstance(value, str):
                self.assertEqual(answer(read_book, value), read_as_told(value))
            else:
                self.assertEqual(answer(read_book, value), raised("BadText", place=0))
        self.assertEqual(answer(read_book, (("a", "b"), ("c",), (2, ((0, 1),)), ((2, 7),), (), ())), raised("BadText", place=0))

    def test_each_token_spoilt(self):
        chance = random.Random(87)
        pool = [";", ":", ">", "?", "..", "0", "7", str(HOLE), str(HOLE + 1), str(TOP), str(TOP + 1), "1" * 32, "07", ",", ".", "zz"]
        pool.extend(WORDS)
        for book in some_books()[:30]:
            parts = parts_of(book_text(book))
            for at in range(len(parts)):
                others = chance.sample(pool, 3) + [chance.choice(book[0]), chance.choice(book[1])]
                cases = [parts[:at] + parts[at + 1:], parts[:at + 1] + parts[at:], parts[:at]]
                cases.extend([parts[:at] + [other] + parts[at + 1:] for other in others])
                for case in cases:
                    text = " ".join(case)
                    self.assertEqual(answer(read_book, text), read_as_told(text), text)

    def test_a_text_that_ends_too_early(self):
        text = HEAD + ROADS + "known 1: t; ask least along r s;"
        whole = (HEAD.rstrip() + " " + ROADS.rstrip(), text)
        for end in range(len(text)):
            begun = text[:end]
            self.assertEqual(answer(read_book, begun), read_as_told(begun))
            if begun.rstrip().endswith(";"):
                # Between two lines it may end as soon as there is a road.
                if "road" in begun:
                    self.assertEqual(answer(read_book, begun)[0], "returns")
                else:
                    self.check(begun, "BadText", place=end)
        for told in whole:
            self.assertEqual(answer(read_book, told)[0], "returns")
        for begun in ("", "places", "places a b", "places a b c; in", "places a b c; in a; out c; road r: a > b 5..", HEAD + "road r: a > b  ",
                      HEAD + ROADS + "known 5:", HEAD + ROADS + "ask least", HEAD + ROADS + "say not not  \n"):
            self.check(begun, "BadText", place=len(begun))

    def test_what_cannot_stand_there(self):
        for text, place in (
                ("place a b;", 0), ("places a;", 8), ("places a b : in a;", 11), ("places a in b;", 9), ("places a 5;", 9),
                ("places a b; out b;", 12), ("places a b; in a b;", 17), ("places a b; in 5;", 15), ("places a b; in out;", 15),
                (HEAD + "known 1: r;", 27), (HEAD + "ask sure;", 27), (HEAD + ";", 27), (HEAD + "road road: a > b 1;", 32),
                (HEAD + "road r a > b 1;", 34), (HEAD + "road r: a : b 1;", 37), (HEAD + "road r: a > b;", 40), (HEAD + "road r: a > b x;", 41),
                (HEAD + "road r: a > b ..5;", 41), (HEAD + "road r: a > b ? 5;", 43), (HEAD + "road r: a > b 5 6;", 43),
                (HEAD + "road r: a > b 5..x;", 44), (HEAD + "road r: a > b 5..?;", 44), (HEAD + "road r: a > b 5...6;", 44),
                (HEAD + "road r: a > b 5..6 7;", 46)):
            self.check(text, "BadText", place=place)
        begin = HEAD + ROADS
        for line, place in (
                ("in a;", 0), ("places x y;", 0), ("known r: t;", 6), ("known 5 t;", 8), ("known 5: ;", 9), ("known 5: t, s;", 10),
                ("ask;", 3), ("ask follow r;", 4), ("ask say sure;", 4), ("ask sure r;", 9), ("ask followers;", 13), ("ask followers r s;", 16),
                ("ask least;", 9), ("ask least 5 along r;", 10), ("ask least near r;", 10), ("ask least along;", 15), ("ask most both r;", 15),
                ("ask most both r s t;", 18), ("ask most touch r 5;", 17), ("ask most along r in;", 17), ("say;", 3), ("say sure;", 4),
                ("say not;", 7), ("say least along r;", 10), ("say least 5;", 11), ("say follow r;", 12), ("say follow r s t;", 15),
                ("say not not 5;", 12), ("say followers r;", 4), ("ask sure; known 1: t;", 10), ("ask sure; road u: a > b 1;", 10),
                ("known 1: t; road u: a > b 1;", 12), ("ask sure;;", 9), ("say least 5 both r s; .", 22)):
            self.check(begin + line, "BadText", place=len(begin) + place)

    def test_a_wrong_token_counts_when_it_is_come_to(self):
        for text, place in (("places a b, c;", 10), ("places a b c;in a;out 07;", 22), (HEAD + "road r: a > b 5.;", 42), (HEAD + ROADS + ",", 81),
                            ("places abcdefghi b;", 7), (HEAD + "road r: a > b " + "1" * 32, 41)):
            self.check(text, "BadText", place=place)
        self.check("places a a, 07", "Taken", given="a")
        self.check(HEAD + "road r: a > x, 07", "NoName", given="x")
        self.check(HEAD + f"road r: a > b {HOLE + 1}, ", "TooMany", limit=HOLE)

    def test_roads_from_out_and_to_in(self):
        for roads, place in (("road r: c > b 5;", 35), ("road r: a > a 5;", 39), ("road r: b > a 5;", 39), ("road r: c > a 5;", 35),
                             ("road r: c > c 5;", 35), ("road r:\n c", 36), ("road r: c > x", 35), ("road r: b > a 5..4;", 39)):
            self.check(HEAD + roads, "BadText", place=place)

    def test_taken(self):
        for text, name in (("places a b a;", "a"), ("places a a", "a"), ("places a b; in a; out a", "a"), (HEAD + "road a", "a"),
                           (HEAD + "road c: x", "c"), (HEAD + ROADS + "road s", "s"), (HEAD + ROADS + "road b", "b"),
                           ("places abcdefgh b abcdefgh", "abcdefgh")):
            self.check(text, "Taken", given=name)

    def test_no_name(self):
        for text, name in (("places a b; in c", "c"), ("places a b; in a; out d", "d"), (HEAD + "road r: d", "d"), (HEAD + "road r: r", "r"),
                           (HEAD + "road r: a > r", "r"), (HEAD + ROADS + "road u: s", "s"), (HEAD + ROADS + "known 1: a", "a"),
                           (HEAD + ROADS + "known 0: r s u", "u"), (HEAD + ROADS + "ask followers b", "b"), (HEAD + ROADS + "ask least both r u", "u"),
                           (HEAD + ROADS + "ask most along s r v", "v"), (HEAD + ROADS + "say follow r c", "c"), (HEAD + ROADS + "say follow z9", "z9"),
                           (HEAD + ROADS + "say not least 4 touch r r x", "x"), (HEAD + ROADS + "say follow t road0", "road0")):
            self.check(text, "NoName", given=name)

    def test_too_many_places(self):
        names = " ".join([f"p{place}" for place in range(24)])
        for text in (f"places {names}; in p3; out p9; road r: p3 > p8 1;", f"places {names}; in p0; out p23; road r: p3 > p8 1;"):
            self.assertEqual(("returns", repr(read_book(text))), read_as_told(text))
        self.check(f"places {names} q", "TooMany", limit=24)
        self.check(f"places {names} q 5 , q", "TooMany", limit=24)
        self.check(f"places {names} p7", "Taken", given="p7")
        self.check(f"places {names} in", "BadText", place=len(names) + 8)

    def test_too_many_roads(self):
        roads = "".join([f"road r{road}: a > b {road};\n" for road in range(60)])
        self.assertEqual(len(read_book(HEAD + roads)[2][1]), 60)
        self.check(HEAD + roads + "road s", "TooMany", limit=60)
        self.check(HEAD + roads + "road s 5", "TooMany", limit=60)
        self.check(HEAD + roads + "road r7", "Taken", given="r7")
        self.check(HEAD + roads + "road a", "Taken", given="a")
        self.check(HEAD + roads + "road 5", "BadText", place=len(HEAD + roads) + 5)

    def test_too_great_numbers(self):
        for number in (HOLE, HOLE + 1, TOP, 10 ** 31 - 1):
            for text in (f"road r: a > b {number};", f"road r: a > b 0..{number};", f"road r: a > b {number}..;"):
                if number <= HOLE:
                    self.assertEqual(answer(read_book, HEAD + text)[0], "returns")
                else:
                    self.check(HEAD + text, "TooMany", limit=HOLE)
        self.assertEqual(read_book(HEAD + ROADS + f"known {TOP}: t;")[4], (((2,), TOP),))
        self.assertEqual(read_book(HEAD + ROADS + f"say most {TOP} touch t;")[5], (("say", ("most", TOP, ("touch", (2,)))),))
        for text in (f"known {TOP + 1}", f"known {TOP + 1} t", f"say least {TOP + 1}", f"say not most {10 ** 31 - 1} touch"):
            self.check(HEAD + ROADS + text, "TooMany", limit=TOP)

    def test_forty_asks_and_one_more(self):
        for line in ("ask sure;", "say follow r r;", "ask most both r t;\n"):
            self.assertEqual(len(read_book(HEAD + ROADS + line * 40)[5]), 40)
            for more in ("ask", "say", "ask 5", "say not", "ask sure;"):
                self.check(HEAD + ROADS + line * 40 + more, "TooMany", limit=40)
            self.check(HEAD + ROADS + line * 40 + ";", "BadText", place=len(HEAD + ROADS + line * 40))
        self.check(HEAD + ROADS + "ask sure;" * 39 + "ask least touch r r; ask sure;", "Unfit")

    def test_eight_nots_and_one_more(self):
        saying = ("follow", 0, 1)
        for nots in range(9):
            self.assertEqual(read_book(HEAD + ROADS + "say " + "not " * nots + "follow r s;")[5], (("say", saying),))
            saying = ("not", saying)
        for text in ("say " + "not " * 9, "say follow r s; say " + "not\n" * 9 + ";", "say " + "not " * 12 + "follow r s;"):
            self.check(HEAD + ROADS + text, "TooMany", limit=8)
        # Each saying has its own.
        line = "say " + "not " * 8 + "follow r s; "
        self.assertEqual(len(read_book(HEAD + ROADS + line * 3)[5]), 3)

    def test_unfit_when_the_line_has_ended(self):
        for line in ("road u: a > b 5..4;", f"road u: a > b {HOLE}..0;", "road u: a > b 1..0;", "known 0: t;", "known 1: r;", "known 1: s;",
                     "known 1: s r;", "known 1: t t;", "known 1: r t;", "ask least along r t;", "ask most along s r;", "ask least along r r;",
                     "ask most touch r r;", "ask most touch t r t;", "say least 4 along s r;", "say not most 4 touch s s;", "known 0: r;"):
            self.check(HEAD + ROADS + line, "Unfit")
            self.check(HEAD + ROADS + line + " , known 07", "Unfit")
            self.check(HEAD + ROADS + line[:-1], "BadText", place=len(HEAD + ROADS + line) - 1)
        for line in ("known 1: r s; known 1: t; known 1: t;", "ask most both r r;", "ask least both s r;", "say least 4 both t t;",
                     "say follow r r;", "road u: a > b 4..4;"):
            self.assertEqual(answer(read_book, HEAD + ROADS + line)[0], "returns")
        self.check("places a b c d; in a; out d; road r: b > c 5; road s: c > b 5..4;", "Unfit")


class Rings(unittest.TestCase):

    def check(self, places, roads, names):
        lines = "".join([f"road r{at}: {road[0]} > {road[1]} 1; " for at, road in enumerate(roads)])
        text = f"places {' '.join(places)}; in {places[0]}; out {places[-1]}; {lines}"
        wanted = answer(read_book, text)
        self.assertEqual(wanted, read_as_told(text))
        if names is not None:
            self.assertEqual(wanted, raised("Ring", names=tuple(names)))
            self.assertEqual(answer(read_book, text + ", 07"), wanted)
        return wanted

    def test_of_one_of_two_and_of_more_roads(self):
        for roads, names in ((("bb",), "b"), (("bc", "cc"), "c"), (("bc", "cb"), "cb"), (("cb", "bc"), "bc"), (("bc", "cd", "db"), "dbc"),
                             (("cd", "db", "bc"), "bcd"), (("bc", "bc", "cb"), "cb"), (("ab", "bc", "ce", "cd", "de", "db"), "dbc"),
                             (("bc", "cd", "df", "fb"), "fbcd"), (("df", "bc", "fb", "cd"), "cdfb")):
            self.check("abcdfe", roads, names)

    def test_the_shortest_way_then_the_first(self):
        for roads, names in ((("bc", "cd", "df", "bf", "fb"), "fb"), (("bc", "cf", "bd", "df", "fb"), "fbc"), (("bd", "df", "bc", "cf", "fb"), "fbd"),
                             (("df", "cf", "bc", "bd", "fb"), "fbc"), (("bd", "cf", "bc", "df", "fb"), "fbd"), (("cf", "bd", "df", "bc", "fb"), "fbd"),
                             (("bd", "bc", "cf", "df", "fb"), "fbd"), (("bc", "cd", "bd", "df", "fb"), "fbd")):
            self.check("abcdfe", roads, names)

    def test_rings_drawn_by_chance(self):
        chance = random.Random(88)
        rings = 0
        for _ in range(1500):
            places = "abcdefgh"[:chance.randint(4, 8)]
            roads = [chance.choice(places[:-1]) + chance.choice(places[1:]) for _ in range(chance.randint(1, 14))]
            rings += self.check(places, roads, None)[1] == "Ring"
        self.assertGreater(rings, 700)


class Calls(unittest.TestCase):

    def test_by_place_by_name_and_again(self):
        for book in some_books()[::6] + great_books()[::4]:
            check_calls(self, book_text, ("book",), (book,))
            check_calls(self, read_book, ("value",), (book_text(book),))
        for value in KINDS + (HEAD, HEAD + ROADS, HEAD + "road r: b > b 5;", some_books()[0]):
            check_calls(self, read_book, ("value",), (value,))

    def test_the_judge_of_the_tests_tells_the_books_too(self):
        for book in some_books():
            self.assertEqual(book_of(book_text(book)), book)


if __name__ == "__main__":
    unittest.main()
