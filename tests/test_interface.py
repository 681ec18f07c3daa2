"""The names, arguments and kinds of values of the document's interface [2]."""

import copy
import importlib
import inspect
import unittest

from tests.things import MORSE
from zipspring.coming import Coming
from zipspring.desk import Desk
from zipspring.errors import ZipError
from zipspring.reads import read_book, read_term

BOOK = read_book("a = zip 1 a b\nb = 0 a")
TERM = read_term("zip 1 a behind b")
ZEROS = ((0, 0, 0),)
# Of each function its module, its arguments by their names, and what it tells.
FUNCTIONS = {
    "is_name": ("terms", {"thing": "ab"}, True),
    "is_term": ("terms", {"thing": TERM}, True),
    "names_in": ("terms", {"term": TERM}, ["a", "b"]),
    "is_book": ("books", {"thing": BOOK}, True),
    "term_of": ("books", {"book": BOOK, "name": "b"}, ("sign", 0, ("row", "a"))),
    "show_term": ("shows", {"term": TERM}, "zip 1 a behind b"),
    "show_book": ("shows", {"book": BOOK}, "a = zip 1 a b\nb = 0 a"),
    "read_term": ("reads", {"text": "zip 1 a behind b"}, TERM),
    "read_book": ("reads", {"text": "a = zip 1 a b\nb = 0 a"}, BOOK),
    "hangs": ("walks", {"term": TERM, "n": 3}, ("call", "b", 2)),
    "walk": ("walks", {"book": BOOK, "name": "a", "n": 2}, ("sign", 1, [("a", 2), ("a", 0)])),
    "is_machine": ("machines", {"thing": MORSE}, True),
    "sign_at": ("machines", {"machine": MORSE, "n": 7}, 1),
    "ahead": ("joining", {"sign": 1, "machine": ZEROS}, ((1, 0, 1), (0, 1, 1))),
    "behind": ("joining", {"machine": ((1, 0, 1), (0, 1, 1))}, ZEROS),
    "zipped": ("joining", {"one": ZEROS, "other": ((1, 0, 0),)}, ((0, 1, 2), (0, 1, 1), (1, 2, 2))),
    "evens": ("joining", {"machine": MORSE}, MORSE),
    "odds": ("joining", {"machine": MORSE}, ((1, 0, 1), (0, 1, 0))),
    "verdict": ("verdicts", {"book": read_book("a = 0 1 behind a"), "name": "a"}, ("one", ((0, 0, 1), (1, 1, 1)))),
    "kept": ("keeping", {"book": read_book("a = 0 a"), "machines": (MORSE,)}, ("break", "a", 1)),
    "alike": ("alike", {"one": MORSE, "other": ZEROS}, ("unlike", 1)),
    "shows_alike": ("alike", {"one": MORSE, "other": MORSE, "pairs": [(0, 0), (1, 1)]}, True),
    "least": ("least", {"machine": ((0, 1, 1), (0, 0, 0))}, ZEROS),
    "kernel_many": ("least", {"machine": MORSE}, 2),
    "book_of": ("telling", {"machine": MORSE}, read_book("a = 0 behind zip a b\nb = 1 behind zip b a")),
    "how_often": ("counting", {"machine": MORSE, "sign": 1, "n": 9}, 4 + 1),
    "place_of": ("counting", {"machine": MORSE, "sign": 1, "k": 3}, 7),
    "turns": ("turning", {"machine": MORSE, "q": 1, "p": 1}, 2),
}
ERRORS = ("NoText", "TooBig", "Told", "Waits", "NoName", "NoRow")


def found(module, name):
    return getattr(importlib.import_module(f"zipspring.{module}"), name)


class Interface(unittest.TestCase):
    def test_by_place_and_by_name(self):
        for name, (module, things, wanted) in FUNCTIONS.items():
            with self.subTest(name):
                function = found(module, name)
                handed = copy.deepcopy(things)
                self.assertEqual(wanted, function(*handed.values()))
                self.assertEqual(wanted, function(**handed))
                backwards = dict(list(handed.items())[::-1])
                self.assertEqual(wanted, function(**backwards))
                self.assertEqual(things, handed)
                self.assertEqual(list(things), list(inspect.signature(function).parameters))

    def test_each_function_is_defined_in_the_module_it_is_listed_for(self):
        for name, (module, _, _) in FUNCTIONS.items():
            self.assertEqual(f"zipspring.{module}", found(module, name).__module__)

    def test_no_two_lists_are_one(self):
        for name, (module, things, wanted) in FUNCTIONS.items():
            if isinstance(wanted, list):
                one, other = found(module, name)(**things), found(module, name)(**things)
                self.assertIsNot(one, other)

    def test_coming(self):
        for by_name in (False, True):
            coming = Coming()
            if by_name:
                told = [coming.tell(name="a", term=read_term("1 b")), coming.tell(term=read_term("b"), name="b")]
                told += [coming.sign(name="a", n=0), coming.sign(n=1, name="a")]
                told += [coming.ready(), coming.verdict(name="a")]
            else:
                told = [coming.tell("a", read_term("1 b")), coming.tell("b", read_term("b"))]
                told += [coming.sign("a", 0), coming.sign("a", 1), coming.ready(), coming.verdict("a")]
            self.assertEqual([None, None, ("sign", 1), ("free",), ["a", "b"], ("more", 1)], told)

    def test_desk(self):
        one, other = Desk(), Desk()
        for row, wanted in (("a = 1 b", "ok"), ("ready", "-"), ("sign a 1", "waits b"), ("show a", "a = 1 b")):
            self.assertEqual(wanted, one.say(row))
            self.assertEqual(wanted, other.say(row=row))

    def test_methods_stand_in_the_class_itself(self):
        for name, things in (("tell", ["name", "term"]), ("sign", ["name", "n"]), ("ready", []), ("verdict", ["name"])):
            self.assertEqual(["self", *things], list(inspect.signature(vars(Coming)[name]).parameters))
        self.assertEqual(["self", "row"], list(inspect.signature(vars(Desk)["say"]).parameters))
        for made in (Coming, Desk):
            self.assertEqual([], list(inspect.signature(made).parameters))

    def test_refusals(self):
        for name in ERRORS:
            error = found("errors", name)
            self.assertEqual((ZipError,), error.__bases__)
            self.assertIsInstance(error("a text"), ValueError)

    def test_the_stage_s_own_module_is_there(self):
        self.assertTrue(importlib.import_module("zipspring.states"))
