"""The desk: rows in, texts out [2, 3, 20]."""

import random
import unittest

from tests.plain import plain_walk
from tests.things import great_things, no_texts, random_book, ring
from zipspring.alike import alike
from zipspring.coming import Coming
from zipspring.counting import how_often, place_of
from zipspring.desk import Desk
from zipspring.errors import NoName, NoRow, NoText, Told, TooBig, Waits
from zipspring.machines import sign_at
from zipspring.reads import read_book
from zipspring.shows import show_book, show_term
from zipspring.verdicts import verdict

THIRTY = 10 ** 30 - 1
TWENTY_TERMS = "zip 1 2 3 4 5 6 7 8 a 8 7 6 5 4 zip a 3 behind a"
# A name of each kind: o has one row, m has more, w waits, and the machines of a to d are too big; x has no equation.
KINDS = [*ring("12" + "0" * 27, "abcd"), "o = 1 2 o", "m = 1 2 behind behind m", "w = 4 u"]
# A row of each form, each answered by a desk of these equations.
LISTED = (
    "sign o 3", "far o 3", "signs o 3", "ready", "one o", "alike o o", "often o 1 3", "place o 1 3", "show o",
)


def desk_of(*rows):
    desk = Desk()
    for line in rows:
        desk.say(line)
    return desk


class Base(unittest.TestCase):
    def says(self, desk, answers):
        """Each row, and what the desk answers it with."""
        for line, wanted in answers.items():
            with self.subTest(line):
                told = desk.say(line)
                self.assertIs(str, told.__class__)
                self.assertEqual(wanted, told)

    def refuses(self, desk, error, *rows):
        """Each row is refused, and nothing that the desk answers is changed by it."""
        before = self.all_answers(desk)
        for line in rows:
            with self.subTest(repr(line)[:80]):
                with self.assertRaises(error) as caught:
                    desk.say(line)
                self.assertIs(error, caught.exception.__class__)
        self.assertEqual(before, self.all_answers(desk))

    def all_answers(self, desk):
        """What the desk answers of each name with an equation, and of some others."""
        answers = [desk.say("ready")]
        for name in list("abcdefghijmowxz") + ["sign", "ready"]:
            for line in (f"show {name}", f"signs {name} 20"):
                try:
                    answers.append(desk.say(line))
                except NoName:
                    answers.append(None)
        return answers


class Equations(Base):
    def test_ok(self):
        desk = Desk()
        self.says(desk, {"a = zip 1 a b": "ok", "b = 0 a": "ok", "abcdefgh = abcdefgh": "ok"})
        self.says(desk, {"show a": "a = zip 1 a b", "show b": "b = 0 a", "show abcdefgh": "abcdefgh = abcdefgh"})

    def test_the_words_of_rows_are_names_too(self):
        desk = Desk()
        self.says(desk, {"sign = 1 sign": "ok", "ready = 2 far": "ok", "show = x": "ok"})
        self.says(desk, {"sign sign 5": "1", "sign ready 0": "2", "sign ready 1": "waits far"})
        self.says(desk, {"sign show 0": "waits x"})
        self.says(desk, {"far = 3 far": "ok", "far far 0": "3", "far ready 0": "2", "show show": "show = x"})

    def test_no_name_ahead(self):
        rows = ["zip = a", "behind = a", "= = a", "A = a", "1 = 1 a", "abcdefghi = a", "a1 = a", "? = a", "a- = a"]
        self.refuses(Desk(), NoRow, *rows)
        self.refuses(desk_of("a = 1 a"), NoRow, *rows)

    def test_no_term(self):
        rows = ["a = =", "a = zip", "a = zip a", "a = 1", "a = 10 a", "a = a a", "a = behind", "a = A", "a = = a",
                "a = zip a a a", "a = " + "1 " * 10 + "a", "a = " + "zip a " * 10 + "a", "a = abcdefghi", "a = -1 a",
                "a = " + "zip " * 990 + "a"]
        self.refuses(Desk(), NoText, *rows)
        self.refuses(desk_of("b = 1 b"), NoText, *rows)

    def test_too_few_words(self):
        self.refuses(Desk(), NoRow, "", "a", "=", "a =", "= a", "= =", "a=a", "a =a", "a= a", "a == a")

    def test_blanks(self):
        rows = [" a = b", "a = b ", "a  = b", "a =  b", " a = b ", "a = zip  a b", "a = zip a b ", "a = ", "a =  ",
                " = a", "  a = b", "a = 1  ", " ", "  "]
        self.refuses(Desk(), NoRow, *rows)

    def test_told_and_a_ninth(self):
        desk = desk_of("a = 1 a")
        self.refuses(desk, Told, "a = 1 a", "a = 2 b", "a = " + TWENTY_TERMS)
        for name in "bcdefgh":
            self.assertEqual("ok", desk.say(f"{name} = 1 2 {name}"))
        self.refuses(desk, TooBig, "i = 1 i", "z = a", "sign = a")
        self.refuses(desk, Told, "a = 1 a", "h = a")
        self.assertEqual("a b c d e f g h", desk.say("ready"))

    def test_show(self):
        self.assertEqual(20, len(TWENTY_TERMS.split()))
        desk = desk_of("a = " + TWENTY_TERMS, "b = 1 2 3 4 5 6 7 8 9 b", "c = behind zip x y")
        self.says(desk, {"show a": "a = " + TWENTY_TERMS, "show b": "b = 1 2 3 4 5 6 7 8 9 b"})
        # Its term may wait; only the name itself must have an equation.
        self.says(desk, {"show c": "c = behind zip x y"})
        self.refuses(desk, NoName, "show x", "show d", "show show")
        rng = random.Random(90)
        for _ in range(60):
            book = random_book(rng, 8, 20)
            desk = desk_of(*[f"{name} = {show_term(term)}" for name, term in book])
            rows = [desk.say(f"show {name}") for name, _ in book]
            self.assertEqual(show_book(book), "\n".join(rows))


class Answers(Base):
    def test_sign(self):
        desk = desk_of("a = zip 1 a b", "c = 5 behind c", "d = 6 sign")
        self.says(desk, {"sign a 0": "1", "sign a 1": "waits b", "sign a 2000": "waits b"})
        self.says(desk, {"sign c 0": "5", "sign c 1": "free", "sign c 2000": "free", "sign d 1": "waits sign"})
        self.says(desk, {"b = 0 a": "ok", "sign a 1": "0", "sign a 3": "1"})
        self.says(desk_of("a = 7 8 a"), {"sign a 2000": "7", "sign a 1999": "8"})
        self.refuses(desk, NoRow, "sign a 2001", "sign a 10000", f"sign a {THIRTY}", "sign x 2001")
        self.refuses(desk, NoName, "sign x 0", "sign x 2000", "sign sign 0")

    def test_signs(self):
        desk = desk_of("a = zip 1 a b", "c = 5 6 behind behind c", "d = zip c a")
        self.says(desk, {"signs a 0": "-", "signs a 1": "1", "signs a 2": "1.", "signs a 7": "1.1...1"})
        self.says(desk, {"signs c 5": "56???", "signs d 8": "516.?1?.", "signs c 60": "56" + "?" * 58})
        self.says(desk, {"b = 0 a": "ok", "signs a 9": "101100111", "signs a 2": "10"})
        self.says(desk_of("a = 1 2 3 a"), {"signs a 60": "123" * 20, "signs a 59": ("123" * 20)[:59]})
        self.refuses(desk, NoRow, "signs a 61", "signs a 100", f"signs a {THIRTY}", "signs x 61")
        self.refuses(desk, NoName, "signs x 0", "signs x 1", "signs x 60", "signs signs 0")

    def test_signs_against_walks(self):
        rng = random.Random(91)
        marks = {"free": "?", "waits": "."}
        for _ in range(60):
            book = random_book(rng, rng.randrange(2, 7), rng.randrange(2, 10))[1:]
            desk = desk_of(*[f"{name} = {show_term(term)}" for name, term in book])
            for name, _ in book:
                walks = [plain_walk(book, name, n) for n in range(60)]
                wanted = "".join(str(told[1]) if told[0] == "sign" else marks[told[0]] for told in walks)
                self.assertEqual(wanted, desk.say(f"signs {name} 60"))
                for n, told in enumerate(walks[:12]):
                    answer = {"sign": str(told[1]), "free": "free", "waits": f"waits {told[1]}"}[told[0]]
                    self.assertEqual(answer, desk.say(f"sign {name} {n}"))

    def test_ready(self):
        desk = Desk()
        self.says(desk, {"ready": "-", "b = c": "ok"})
        self.says(desk, {"ready": "-", "z = z": "ok"})
        self.says(desk, {"ready": "z", "c = 1 c": "ok"})
        self.says(desk, {"ready": "b c z", "a = q": "ok"})
        self.says(desk, {"ready": "b c z"})

    def test_one(self):
        desk = desk_of(*KINDS)
        self.says(desk, {"one o": "one", "one m": "more 2"})
        self.refuses(desk, NoName, "one x", "one u", "one one")
        self.refuses(desk, Waits, "one w")
        self.refuses(desk, TooBig, "one a", "one d")
        great = desk_of("y = zip y z", "z = 0 zip z z", "a = " + "zip z " * 9 + "b", "b = " + "zip z " * 9 + "c",
                        "c = " + "zip z " * 9 + "y")
        self.says(great, {"one a": f"more {2 ** 27 - 1}", "one y": "more 0", "one z": "one"})

    def test_far(self):
        rows = ["a = zip 1 a b", "b = 0 a"]
        desk = desk_of(*rows)
        machine = verdict(read_book("\n".join(rows)), "a")[1]
        for n in (0, 1, 2, 2000, 2001, 10 ** 18, 10 ** 29, 10 ** 29 + 7, THIRTY):
            self.says(desk, {f"far a {n}": str(sign_at(machine, n))})
        self.says(desk_of("a = 1 2 a"), {f"far a {THIRTY}": "2", f"far a {10 ** 29}": "1"})

    def test_often_and_place(self):
        rows = ["a = zip 1 a b", "b = 0 a", "c = 3 4 5 c"]
        desk = desk_of(*rows)
        for name in "abc":
            machine = verdict(read_book("\n".join(rows)), name)[1]
            for sign in range(10):
                for n in (0, 1, 2, 77, 10 ** 18, 10 ** 29, THIRTY):
                    self.says(desk, {f"often {name} {sign} {n}": str(how_often(machine, sign, n))})
                    place = place_of(machine, sign, n)
                    self.says(desk, {f"place {name} {sign} {n}": "none" if place is None else str(place)})
        self.says(desk, {"often c 4 100": "33", "often c 3 100": "34", "often c 0 100": "0", "often c 3 0": "0"})
        self.says(desk, {"place c 4 0": "1", "place c 3 5": "15", "place c 9 0": "none"})
        self.says(desk, {f"often c 3 {THIRTY}": str(THIRTY // 3), f"place c 3 {THIRTY}": "none"})
        self.says(desk_of("z = 0 z"), {"place z 0 999999999999999999": "9" * 18, f"place z 0 {10 ** 18}": "none"})

    def test_alike(self):
        desk = desk_of("a = 1 2 a", "b = 1 2 1 2 b", "c = 1 d", "d = 2 c", "e = 1 2 1 2 1 1 e", "f = 1 2 3 f")
        self.says(desk, {"alike a a": "alike", "alike a b": "alike", "alike b c": "alike", "alike a e": "unlike 5"})
        self.says(desk, {"alike a d": "unlike 0", "alike f a": "unlike 2", "alike e b": "unlike 5"})
        rng = random.Random(92)
        met = set()
        for _ in range(60):
            book = random_book(rng, 3, 6)
            desk = desk_of(*[f"{name} = {show_term(term)}" for name, term in book])
            rows = [verdict(book, name) for name, _ in book]
            for one, (name, _) in zip(rows, book):
                for other, (second, _) in zip(rows, book):
                    if one[0] == other[0] == "one":
                        told = alike(one[1], other[1])
                        wanted = "alike" if told[0] == "alike" else f"unlike {told[1]}"
                        self.says(desk, {f"alike {name} {second}": wanted})
                        met.add(wanted)
        self.assertGreater(len(met), 3)


class Rows(Base):
    def test_each_listed_row_is_answered(self):
        desk = desk_of(*KINDS)
        answers = dict(zip(LISTED, ["2", "2", "121", "a b c d m o", "one", "alike", "2", "6", "o = 1 2 o"]))
        self.says(desk, answers)

    def test_a_word_too_many_and_too_few(self):
        desk = desk_of(*KINDS)
        for line in LISTED:
            words = line.split()
            self.refuses(desk, NoRow, *[f"{line} {more}" for more in ("o", "1", "0", "=", "sign")])
            for at in range(1, len(words)):
                few, rest, many = words[:at], words[at:], words[:at] + ["o"] + words[at:]
                self.refuses(desk, NoRow, " ".join(few), " ".join(rest), " ".join(many))

    def test_blanks_ahead_behind_and_doubled(self):
        desk = desk_of(*KINDS)
        for line in LISTED:
            rows = [" " + line, line + " ", "  " + line, line + "  "]
            if " " in line:
                rows += [line.replace(" ", "  "), line.replace(" ", "  ", 1)]
            self.refuses(desk, NoRow, *rows)
        self.refuses(desk, NoRow, "", " ", "  ", "   ")

    def test_words_that_are_none(self):
        desk = desk_of(*KINDS)
        self.refuses(desk, NoRow, "Ready", "READY", "readyy", "read", "o", "show", "tell o", "0", "Sign o 3",
                     "sing o 3", "verdict o", "signs", "one o o", "-", "?", "ready.", "zip", "behind", "= o o",
                     "show=o", "~", "!")

    def test_names_that_are_none(self):
        desk = desk_of(*KINDS)
        for name in ("zip", "behind", "A", "O", "abcdefghi", "o1", "1", "0", "-", "=", "~", "o-", "a" * 3900):
            rows = [line.replace(" o", " " + name, 1) for line in LISTED if " o" in line]
            rows += [f"alike o {name}", f"alike x {name}", f"alike {name} {name}"]
            # With = as their second word rows of three words or more are equations, and the first word is a name.
            self.refuses(desk, NoRow, *[line for line in rows if line.split()[1] != "=" or len(line.split()) < 3])

    def test_an_equals_sign_in_second_place_makes_an_equation(self):
        desk = desk_of(*KINDS)
        self.refuses(desk, NoText, "sign = 3", "far = 3", "often = 1 3", "alike = =", "one = 1", "ready = 0")
        self.refuses(desk, NoRow, "ready =", "one =", "show =")
        self.says(desk, {"alike = o": "ok", "show alike": "alike = o", "alike alike o": "alike"})

    def test_numbers(self):
        desk = desk_of(*KINDS)
        none = ("00", "01", "007", "-1", "+1", "1.", "1.0", "1e3", "1_0", "0x1", "one", "?", "", "a", "1" * 31,
                "1" + "0" * 30, "0" * 30, "9" * 4000, "9" * 3900, "10 0", "1,000")
        for number in none:
            self.refuses(desk, NoRow, f"sign o {number}", f"far o {number}", f"signs o {number}", f"often o 1 {number}",
                         f"place o 1 {number}", f"often o {number} 3", f"place o {number} 3")
        self.says(desk, {"far o 0": "1", f"far o {'9' * 30}": "2", f"far o {10 ** 29}": "1"})
        self.says(desk, {f"often o 1 {'9' * 30}": str(5 * 10 ** 29), f"place o 1 {'9' * 30}": "none"})
        self.says(desk, {"sign o 0": "1", "sign o 2000": "1", "signs o 60": "12" * 30, "signs o 0": "-"})
        self.refuses(desk, NoRow, f"far o {10 ** 30}", f"often o 1 {10 ** 30}", f"place o 1 {10 ** 30}")

    def test_signs_of_two_figures(self):
        desk = desk_of(*KINDS)
        self.says(desk, {f"often o {sign} 0": "0" for sign in range(10)})
        self.refuses(desk, NoRow, "often o 10 3", "place o 10 3", "often o 00 3", "place o -1 3", "often o a 3",
                     "often o 12 3", "place o 99 3")

    def test_what_is_no_text(self):
        desk = desk_of(*KINDS)
        self.refuses(desk, NoRow, *no_texts(), ("ready",), ["ready"], ("a", "=", "a"), ("ready", None), 3.5, b"ready")
        self.refuses(desk, NoRow, *[thing for thing in great_things() if not isinstance(thing, str)][:60])


class Refusals(Base):
    def asked(self, name):
        """The rows for which a name must have just one row."""
        return [f"far {name} 0", f"often {name} 1 0", f"place {name} 1 0", f"alike {name} {name}", f"alike o {name}",
                f"alike {name} o", f"far {name} {THIRTY}", f"often {name} 1 {THIRTY}", f"place {name} 9 {THIRTY}"]

    def test_each_one(self):
        desk = desk_of(*KINDS)
        self.refuses(desk, NoName, *self.asked("x"), *self.asked("u"), "one x", "sign x 0", "signs x 0", "show x")
        self.refuses(desk, Waits, *self.asked("w"), "one w")
        self.refuses(desk, NoRow, *self.asked("m"))
        self.refuses(desk, TooBig, *self.asked("a"), *self.asked("d"), "one a")

    def test_no_row_ahead_of_all(self):
        desk = desk_of(*KINDS)
        for name in ("x", "u", "w", "m", "a", "o"):
            self.refuses(desk, NoRow, f"far {name} 01", f"far {name} {10 ** 30}", f"often {name} 10 1",
                         f"place {name} 1 01", f"alike {name} A", f"alike A {name}", f"alike {name} zip",
                         f"one {name} ", f" one {name}", f"sign {name} 2001", f"signs {name} 61", f"show {name} ")
        self.refuses(desk, NoRow, "A = zip", "zip = 1", "a  = zip", "a = zip ", " o = o", "o =  o")

    def test_no_text_ahead_of_told_and_too_big(self):
        desk = desk_of(*KINDS)
        self.refuses(desk, NoText, "o = zip", "a = 1", "w = w w")
        desk.say("e = e")
        self.refuses(desk, NoText, "o = zip", "f = zip", "f = 1")
        self.refuses(desk, TooBig, "f = f")
        self.refuses(desk, Told, "o = o", "e = e")

    def test_no_name_ahead_of_the_others(self):
        desk = desk_of(*KINDS)
        for name in ("w", "m", "a", "o", "u"):
            self.refuses(desk, NoName, f"alike x {name}", f"alike {name} x")

    def test_waits_ahead_of_more_and_too_big(self):
        desk = desk_of(*KINDS)
        for name in ("m", "a", "o", "w"):
            self.refuses(desk, Waits, f"alike w {name}", f"alike {name} w")

    def test_more_ahead_of_too_big(self):
        desk = desk_of(*KINDS)
        for name in ("a", "o", "m"):
            self.refuses(desk, NoRow, f"alike m {name}", f"alike {name} m")
        self.refuses(desk, TooBig, "alike a b", "alike a o", "alike o a", "alike a a")

    def test_what_has_more_than_one_row_by_a_big_one_is_no_row(self):
        # It hangs on one whose machine is too big, but has more than one row itself.
        desk = desk_of(*KINDS, "n = zip a m")
        self.refuses(desk, NoRow, *self.asked("n"))
        self.says(desk, {"one n": "more 5"})

    def test_what_is_refused_changes_nothing(self):
        desk = desk_of(*KINDS)
        # A name that is not told yet is not told by a refused row either.
        self.refuses(desk, NoText, "e = zip")
        self.refuses(desk, NoRow, "e = e ")
        self.says(desk, {"e = 8 e": "ok", "far e 0": "8", "sign w 1": "waits u"})


class Whole(Base):
    def test_two_desks_by_turns(self):
        one, other = Desk(), Desk()
        self.says(one, {"a = 1 a": "ok"})
        self.refuses(other, NoName, "show a", "sign a 0", "one a")
        self.says(other, {"a = 2 b": "ok", "ready": "-"})
        self.says(one, {"ready": "a", "far a 7": "1", "show a": "a = 1 a", "b = b": "ok"})
        self.says(other, {"sign a 1": "waits b", "b = 3 b": "ok", "alike a b": "unlike 0"})
        self.says(one, {"sign b 0": "free", "one b": "more 0"})
        self.refuses(one, NoRow, "alike a b")

    def test_nothing_to_do_with_a_coming_book(self):
        coming, desk = Coming(), Desk()
        coming.tell("a", ("row", "a"))
        self.refuses(desk, NoName, "show a")
        self.assertEqual(["a"], coming.ready())

    def test_the_same_again_while_equations_come(self):
        desk = Desk()
        self.says(desk, {"a = zip 1 a b": "ok", "signs a 8": "1.1...1.", "c = 4 behind c": "ok"})
        for _ in range(3):
            self.says(desk, {"signs a 8": "1.1...1.", "sign c 1": "free", "ready": "c", "one c": "more 1"})
        self.says(desk, {"b = 0 d": "ok", "signs a 8": "101.0.1.", "ready": "c"})
        self.says(desk, {"d = a": "ok", "signs a 8": "10110011", "ready": "a b c d"})

    def test_by_its_name(self):
        desk = Desk()
        self.assertEqual("ok", desk.say(row="a = 1 a"))
        self.assertEqual("1", desk.say(row="far a 3"))
