"""A shell: a desk that is led by lines, with the names of a book."""

from suretrips.anynumber import with_number
from suretrips.booktexts import book_text, names_text, read_book, read_one, read_question, read_roads, read_saying
from suretrips.bounds import MAX_COUNT
from suretrips.desks import Desk, do_edit, refuse_question
from suretrips.errors import BadText, NoName, NothingToUndo, Ring, Taken, TooMany, TooManyEdits, Unfit
from suretrips.explaining import explained
from suretrips.following import followers
from suretrips.lexing import Reader
from suretrips.stretches import sure_stretches
from suretrips.verdicts import answered, only_tally, saying_error, verdict

ALONE = ("undo", "redo", "tally", "known", "explain", "sure", "answers", "text")
AHEAD = ("book", "see", "away", "know", "doubt", "least", "most", "with", "followers", "verdict")
EDITS = {"see": "see", "away": "take_back", "know": "know", "doubt": "doubt"}


def split_line(line):
    """The word of line and the text behind it; None if line is no line."""
    if not isinstance(line, str):
        return None
    if line in ALONE:
        return line, ""
    word, blank, text = line.partition(" ")
    return (word, text) if word in AHEAD and blank == " " else None


def opened(text):
    """The book that text tells and its desk."""
    book = read_book(text)
    _, _, net, holes, known, _ = book
    desk = Desk(net)
    desk.put(only_tally(net, holes))
    for trip, times in known:
        desk.know(trip, times)
    return book, desk


def version_row(desk):
    """How many edits of desk stand."""
    return f"version {desk.version}"


def told_row(names, told):
    """The trips of told, each as its times and the names of its roads."""
    return ", ".join([f"{times}{names_text(names, trip)}" for trip, times in told]) or "none"


def sure_row(names, desk):
    """The names of the roads of all sure stretches."""
    stretches = sure_stretches(desk.net, desk.tally)
    return " ".join([">".join([names[road] for road in stretch]) for stretch in stretches]) or "none"


def edited(names, desk, word, reader):
    """Do the edit that is called word, of the trip that reader tells."""
    times = reader.want_number(MAX_COUNT)
    trip = read_roads(reader, names)
    reader.want_end()
    do_edit(desk, (EDITS[word], trip, times))
    return version_row(desk)


def asked(names, desk, word, reader):
    """The number that word asks for of the question that reader tells."""
    question = read_question(reader, names)
    reader.want_end()
    return str(desk.least(question) if word == "least" else desk.most(question))


def with_row(names, desk, reader):
    """An explanation with the number of trips that reader tells for a question."""
    number = reader.want_number(MAX_COUNT)
    question = read_question(reader, names)
    reader.want_end()
    refuse_question(desk.net, question)
    return told_row(names, with_number(desk.net, desk.tally, question, number))


def followers_row(names, desk, reader):
    """The names of the roads by which the road that reader tells is followed."""
    road = read_one(reader, names)
    reader.want_end()
    return " ".join([names[other] for other in followers(desk.net, desk.tally, road)]) or "none"


def verdict_row(names, desk, reader):
    """Whether the saying that reader tells holds."""
    saying = read_saying(reader, names)
    reader.want_end()
    if saying_error(desk.net, saying) is not None:
        raise Unfit()
    return verdict(desk.net, desk.tally, saying)


def answer_alone(book, desk, word):
    """The answer to a line that is a word alone."""
    names = book[1]
    if word == "tally":
        return " ".join([f"{name}={count}" for name, count in zip(names, desk.tally)])
    if word == "known":
        return told_row(names, desk.known)
    if word == "explain":
        return told_row(names, explained(desk.net, desk.tally))
    if word == "sure":
        return sure_row(names, desk)
    if word == "answers":
        return " | ".join(answered(book)) or "none"
    if word == "text":
        return book_text(book)
    if word == "undo":
        desk.undo()
    else:
        desk.redo()
    return version_row(desk)


def answer(book, desk, word, text):
    """The answer to the line of word and text."""
    if word in ALONE:
        return answer_alone(book, desk, word)
    names, reader = book[1], Reader(text)
    if word in EDITS:
        return edited(names, desk, word, reader)
    if word == "with":
        return with_row(names, desk, reader)
    if word == "followers":
        return followers_row(names, desk, reader)
    if word == "verdict":
        return verdict_row(names, desk, reader)
    return asked(names, desk, word, reader)


class Shell:
    """Answers lines about the book that was told last."""

    def __init__(self):
        self._book = None
        self._desk = None

    def say(self, line):
        """The answer to line."""
        split = split_line(line)
        if split is None:
            return "what"
        word, text = split
        if self._book is None and word != "book":
            return "no book"
        try:
            if word != "book":
                return answer(self._book, self._desk, word, text)
            book, desk = opened(text)
            self._book = book
            self._desk = desk
            return version_row(desk)
        except Unfit:
            return "error Unfit"
        except BadText:
            return "error BadText"
        except TooMany:
            return "error TooMany"
        except NoName:
            return "error NoName"
        except Taken:
            return "error Taken"
        except Ring:
            return "error Ring"
        except NothingToUndo:
            return "error NothingToUndo"
        except TooManyEdits:
            return "error TooManyEdits"
