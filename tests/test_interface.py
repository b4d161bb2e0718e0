"""The names, arguments and bounds of the interface, and the errors."""

import copy
import inspect
import pickle
import unittest

from suretrips import (answering, anynumber, booktexts, bounds, costs, desks, errors, exchanging, explaining, fillings,
                       flows, following, lexing, nets, nettexts, papers, plans, questions, shells, stretches, tallies,
                       tallytexts, unrolling, verdicts)
from tests.common import KINDS

BOUNDS = {
    "MAX_PLACES": 24, "MAX_ROADS": 60, "MAX_COUNT": 10 ** 30, "MAX_HOLE": 10 ** 28, "MAX_TRIPS": 200,
    "MAX_ALL": 1000, "MAX_SOME": 10, "MAX_NOTS": 8, "MAX_ASKS": 40, "MAX_ROOMS": 6, "MAX_BEATS": 6, "MAX_EDITS": 40,
}

ERRORS = {
    "Unfit": (), "BadText": ("place",), "BadNet": ("error",), "BadTally": ("error",), "TooMany": ("limit",),
    "NoName": ("given",), "Taken": ("given",), "Ring": ("names",), "NothingToUndo": (), "TooManyEdits": (),
    "BadLog": ("place",),
}

FUNCTIONS = {
    nets: {
        "net_error": ["value"], "roads_from": ["net", "place"], "roads_to": ["net", "place"],
        "leads": ["net", "one", "other"], "trip_count": ["net"], "trip_at": ["net", "number"],
        "trip_error": ["net", "value"],
    },
    nettexts: {"net_text": ["net"], "read_net": ["value"]},
    tallies: {
        "tally_error": ["net", "value"], "total": ["net", "tally"], "passing": ["net", "tally", "place"],
        "put_together": ["one", "other"], "less": ["one", "other"],
    },
    tallytexts: {"tally_text": ["tally"], "read_tally": ["net", "value"]},
    fillings: {
        "holes_error": ["net", "value"], "is_within": ["holes", "tally"], "filled": ["net", "holes"],
        "no_filling": ["net", "holes"], "bar_error": ["net", "holes", "value"], "narrowed": ["net", "holes"],
    },
    explaining: {
        "explanation_error": ["net", "tally", "value"], "tally_of": ["net", "told"], "explained": ["net", "tally"],
        "all_explained": ["net", "tally"], "settled": ["net", "tally"],
    },
    exchanging: {"exchanged": ["net", "explanation", "steps"], "exchanges": ["net", "one", "other"]},
    stretches: {
        "stretch_error": ["net", "value"], "excess": ["net", "tally", "stretch"],
        "least_along": ["net", "tally", "stretch"], "most_along": ["net", "tally", "stretch"],
        "is_sure": ["net", "tally", "stretch"], "sure_stretches": ["net", "tally"],
        "least_through": ["net", "holes", "stretch"], "most_through": ["net", "holes", "stretch"],
    },
    flows: {
        "greatest_flow": ["net", "room", "feet", "heads", "ends"],
        "flow_error": ["net", "room", "feet", "heads", "ends", "value"],
    },
    costs: {"least_cost": ["net", "holes", "costs"], "least_cost_error": ["net", "holes", "costs", "value"]},
    questions: {
        "question_error": ["net", "value"], "takes": ["question", "trip"], "taken": ["question", "told"],
    },
    answering: {
        "least": ["net", "tally", "question"], "most": ["net", "tally", "question"], "door_table": ["net", "tally"],
    },
    papers: {
        "shown": ["net", "tally", "question", "places"], "paper": ["net", "tally", "question"],
        "paper_error": ["net", "tally", "question", "value"],
    },
    anynumber: {"with_number": ["net", "tally", "question", "number"]},
    following: {
        "follows": ["net", "tally", "a", "b"], "followers": ["net", "tally", "a"], "apart": ["net", "tally", "a", "b"],
        "ways_past": ["net", "tally", "a"], "lone": ["net", "tally", "few"], "avoider": ["net", "tally", "a", "b"],
        "avoider_error": ["net", "tally", "a", "b", "value"], "barrier": ["net", "tally", "a", "b"],
        "barrier_error": ["net", "tally", "a", "b", "value"],
    },
    lexing: {"is_name": ["value"], "tokens": ["value"]},
    booktexts: {"book_text": ["book"], "read_book": ["value"]},
    verdicts: {
        "saying_error": ["net", "value"], "holds": ["saying", "explanation"], "verdict": ["net", "tally", "saying"],
        "witnesses": ["net", "tally", "saying"], "answered": ["book"],
    },
    plans: {"plan_error": ["value"], "plan_text": ["plan"], "read_plan": ["value"]},
    unrolling: {
        "unrolled": ["plan"], "place_of": ["plan", "room", "beat"], "road_of": ["plan", "door", "beat"],
        "wait_of": ["plan", "room", "beat"], "counts_error": ["plan", "value"], "tally_of_plan": ["plan", "counts"],
        "counts_of": ["plan", "tally"], "told_back": ["plan", "trip"],
    },
    desks: {"Desk": ["net"], "desk_behind": ["net", "value"]},
    shells: {"Shell": []},
}

METHODS = {
    desks.Desk: {
        "rest": [], "see": ["trip", "times"], "take_back": ["trip", "times"], "know": ["trip", "times"],
        "doubt": ["trip", "times"], "put": ["tally"], "undo": [], "redo": [], "least": ["question"], "most": ["question"],
        "settled": [], "follows": ["a", "b"], "copy": [],
    },
    shells.Shell: {"say": ["line"]},
}


class Interface(unittest.TestCase):

    def test_bounds(self):
        for name, value in BOUNDS.items():
            self.assertIs(type(getattr(bounds, name)), int)
            self.assertEqual(getattr(bounds, name), value)

    def test_functions_stand_in_their_files_with_their_arguments(self):
        for module, functions in FUNCTIONS.items():
            for name, arguments in functions.items():
                with self.subTest(name=name):
                    function = getattr(module, name)
                    self.assertEqual(function.__module__, module.__name__)
                    self.assertEqual(list(inspect.signature(function).parameters), arguments)

    def test_methods_stand_in_their_classes_with_their_arguments(self):
        for made, methods in METHODS.items():
            for name, arguments in methods.items():
                with self.subTest(name=name):
                    self.assertEqual(list(inspect.signature(vars(made)[name]).parameters), ["self"] + arguments)
        self.assertEqual([name for name in vars(shells.Shell) if not name.startswith("__")], ["say"])

    def test_keywords_stand_in_lexing(self):
        self.assertIs(type(lexing.KEYWORDS), tuple)
        self.assertEqual({type(word) for word in lexing.KEYWORDS}, {str})


class Errors(unittest.TestCase):

    def test_each_stands_directly_under_trip_error(self):
        self.assertEqual(errors.TripError.__bases__, (ValueError,))
        for name in ERRORS:
            self.assertEqual(getattr(errors, name).__bases__, (errors.TripError,))
            self.assertEqual(getattr(errors, name).__module__, "suretrips.errors")

    def test_made_by_place_and_by_name_they_keep_any_value(self):
        for name, fields in ERRORS.items():
            for value in KINDS if fields else KINDS[:1]:
                made = getattr(errors, name)
                for error in (made(*[value] * len(fields)), made(**{field: value for field in fields})):
                    self.assertEqual(list(vars(error)), list(fields))
                    for field in fields:
                        self.assertIs(getattr(error, field), value)
                    self.assertIsInstance(str(error), str)

    def test_they_are_raised_and_caught(self):
        for name, fields in ERRORS.items():
            with self.assertRaises(getattr(errors, name)):
                raise getattr(errors, name)(*[3] * len(fields))

    def test_they_can_be_copied(self):
        for name, fields in ERRORS.items():
            error = getattr(errors, name)(**{field: (1, "a") for field in fields})
            for other in (copy.copy(error), pickle.loads(pickle.dumps(error))):
                self.assertIs(type(other), type(error))
                self.assertEqual(vars(other), vars(error))


if __name__ == "__main__":
    unittest.main()
