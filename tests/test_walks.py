"""What a sign hangs on, and walks [3, 5, 7, 8]."""

import copy
import random
import unittest

from tests.plain import plain_walk
from tests.things import A, B, random_book, random_term, within
from zipspring.books import term_of
from zipspring.errors import NoName
from zipspring.reads import read_book, read_term
from zipspring.walks import hangs, walk

SIXTY = 10 ** 60 - 1
EXAMPLE = read_book("a = zip 1 a b\nb = 0 a")


def first_things(term, many):
    """The first things that the term's signs hang on, by what rows the four forms have, place after place."""
    if term[0] == "row":
        return [("call", term[1], place) for place in range(many)]
    if term[0] == "sign":
        return ([("sign", term[1])] + first_things(term[2], many))[:many]
    if term[0] == "behind":
        return first_things(term[1], many + 1)[1:]
    one, other = first_things(term[1], many), first_things(term[2], many)
    return [thing for pair in zip(one, other) for thing in pair][:many]


class Hangs(unittest.TestCase):
    def test_a_row(self):
        for n in (0, 1, 2, 7, 2000, SIXTY):
            self.assertEqual(("call", "a", n), hangs(A, n))
            self.assertEqual(("call", "abcdefgh", n), hangs(("row", "abcdefgh"), n))

    def test_a_sign_ahead(self):
        for sign in range(10):
            self.assertEqual(("sign", sign), hangs(("sign", sign, A), 0))
            for n in (1, 2, 7, 2000, SIXTY):
                self.assertEqual(("call", "a", n - 1), hangs(("sign", sign, A), n))

    def test_behind(self):
        for n in (0, 1, 2, 7, 2000, SIXTY):
            self.assertEqual(("call", "a", n + 1), hangs(("behind", A), n))

    def test_zip(self):
        for half in (0, 1, 2, 7, 1000, 10 ** 59 + 1):
            self.assertEqual(("call", "a", half), hangs(("zip", A, B), 2 * half))
            self.assertEqual(("call", "b", half), hangs(("zip", A, B), 2 * half + 1))

    def test_one_within_another(self):
        term = read_term("zip 1 a behind b")
        wanted = [("sign", 1), ("call", "b", 1), ("call", "a", 0), ("call", "b", 2), ("call", "a", 1)]
        self.assertEqual(wanted, [hangs(term, n) for n in range(5)])
        term = read_term("behind zip 1 a 2 3 b")
        wanted = [("sign", 2), ("call", "a", 0), ("sign", 3), ("call", "a", 1), ("call", "b", 0), ("call", "a", 2)]
        self.assertEqual(wanted, [hangs(term, n) for n in range(6)])
        term = read_term("zip zip a b zip c d")
        self.assertEqual("acbdacbd", "".join(hangs(term, n)[1] for n in range(8)))
        self.assertEqual([0, 0, 0, 0, 1, 1, 1, 1], [hangs(term, n)[2] for n in range(8)])

    def test_ten_within_one_another(self):
        self.assertEqual(("call", "a", 9), hangs(within(10), 0))
        nine = read_term("1 2 3 4 5 6 7 8 9 a")
        self.assertEqual([("sign", n + 1) for n in range(9)], [hangs(nine, n) for n in range(9)])
        self.assertEqual(("call", "a", 0), hangs(nine, 9))
        self.assertEqual(("call", "a", SIXTY - 9), hangs(nine, SIXTY))

    def test_against_the_rows_of_the_four_forms(self):
        rng = random.Random(3)
        for _ in range(400):
            term = random_term(rng, ["a", "b", "c"])
            wanted = first_things(term, 40)
            self.assertEqual(wanted, [hangs(term, n) for n in range(40)], term)

    def test_places_of_sixty_figures(self):
        even, odd = 10 ** 59 + 4, 10 ** 59 + 7
        term = read_term("zip 1 a behind b")
        self.assertEqual(("call", "a", even // 2 - 1), hangs(term, even))
        self.assertEqual(("call", "b", odd // 2 + 1), hangs(term, odd))
        term = read_term("behind zip zip a b 1 2 3 c")
        self.assertEqual(("call", "c", (even + 1) // 2 - 3), hangs(term, even))
        self.assertEqual(("call", "a" if (odd + 1) // 2 % 2 == 0 else "b", (odd + 1) // 4), hangs(term, odd))

    def test_nothing_is_changed_and_by_their_names(self):
        term = read_term("zip 1 a behind b")
        before = copy.deepcopy(term)
        self.assertEqual(("sign", 1), hangs(term=term, n=0))
        self.assertEqual(("call", "b", 1), hangs(n=1, term=term))
        self.assertEqual(before, term)


def known_signs(book, many):
    """The signs at the first places that the equations give, found by giving rows to terms again and again."""
    rows = {name: [None] * many for name, _ in book}
    while True:
        new = {name: row_of(term, rows, many) for name, term in book}
        if new == rows:
            return rows
        rows = new


def row_of(term, rows, many):
    if term[0] == "row":
        return rows[term[1]]
    if term[0] == "sign":
        return ([term[1]] + row_of(term[2], rows, many))[:many]
    if term[0] == "behind":
        return row_of(term[1], rows, many)[1:] + [None]
    one, other = row_of(term[1], rows, many), row_of(term[2], rows, many)
    return [sign for pair in zip(one, other) for sign in pair][:many]


class Walks(unittest.TestCase):
    def walks(self, text, name, n, wanted, calls):
        """The walk in the book of the text is as wanted, its calls written as a text: a 2 a 0."""
        words = calls.split()
        pairs = [(words[at], int(words[at + 1])) for at in range(0, len(words), 2)]
        with self.subTest(f"{text} {name} {n}"):
            self.assertEqual(wanted + (pairs,), walk(read_book(text), name, n))

    def test_the_example(self):
        self.assertEqual(("sign", 1, [("a", 2), ("a", 0)]), walk(EXAMPLE, "a", 2))
        self.assertEqual(("sign", 1, [("a", 0)]), walk(EXAMPLE, "a", 0))
        self.assertEqual(("sign", 0, [("a", 1), ("b", 0)]), walk(EXAMPLE, "a", 1))
        self.assertEqual(("sign", 1, [("a", 3), ("b", 1), ("a", 0)]), walk(EXAMPLE, "a", 3))
        self.assertEqual(("sign", 0, [("b", 0)]), walk(EXAMPLE, "b", 0))
        self.assertEqual(("sign", 1, [("b", 1), ("a", 0)]), walk(EXAMPLE, "b", 1))

    def test_a_sign_at_once(self):
        for sign in range(10):
            self.walks(f"a = {sign} a", "a", 0, ("sign", sign), "a 0")
        self.walks("a = 1 2 3 a", "a", 2, ("sign", 3), "a 2")
        self.walks("a = behind 1 2 a", "a", 0, ("sign", 2), "a 0")
        self.walks("a = zip a 4 a", "a", 1, ("sign", 4), "a 1")

    def test_a_sign_late(self):
        self.walks("a = 1 a", "a", 3, ("sign", 1), "a 3 a 2 a 1 a 0")
        self.walks("a = 1 2 a", "a", 5, ("sign", 2), "a 5 a 3 a 1")
        self.walks("a = 1 b\nb = 2 a", "a", 3, ("sign", 2), "a 3 b 2 a 1 b 0")
        self.walks("a = behind b\nb = 1 2 3 a", "a", 3, ("sign", 3), "a 3 b 4 a 1 b 2")
        told = walk(read_book("a = 7 a"), "a", 2000)
        self.assertEqual(("sign", 7, [("a", place) for place in range(2000, -1, -1)]), told)

    def test_free_by_a_call_that_stands_there_already(self):
        for n in (0, 1, 2000):
            self.walks("a = a", "a", n, ("free",), f"a {n} a {n}")
            self.walks("a = b\nb = a", "a", n, ("free",), f"a {n} b {n} a {n}")
            self.walks("a = b\nb = b", "a", n, ("free",), f"a {n} b {n} b {n}")
            self.walks("a = behind 1 a", "a", n, ("free",), f"a {n} a {n}")
        self.walks("a = 1 behind a", "a", 1, ("free",), "a 1 a 1")
        self.walks("a = 1 behind a", "a", 0, ("sign", 1), "a 0")

    def test_free_by_a_call_that_stands_there_already_with_a_zip_between(self):
        self.walks("a = zip a b\nb = 0 b", "a", 0, ("free",), "a 0 a 0")
        self.walks("a = zip a b\nb = 0 b", "a", 8, ("sign", 0), "a 8 a 4 a 2 a 1 b 0")
        self.walks("a = behind zip 1 a b\nb = a", "a", 0, ("free",), "a 0 b 0 a 0")
        # From 2 the place rises to 3 by a zip, and comes back to 2 by another one.
        self.walks("a = zip behind behind a b\nb = behind a", "a", 2, ("free",), "a 2 a 3 b 1 a 2")

    def test_free_by_a_call_at_a_greater_place(self):
        for n in (0, 1, 2000):
            self.walks("a = behind a", "a", n, ("free",), f"a {n} a {n + 1}")
            self.walks("a = behind b\nb = a", "a", n, ("free",), f"a {n} b {n + 1} a {n + 1}")
            self.walks("a = b\nb = behind a", "a", n, ("free",), f"a {n} b {n} a {n + 1}")
            self.walks("a = b\nb = behind b", "a", n, ("free",), f"a {n} b {n} b {n + 1}")
        self.walks("a = behind behind 1 a", "a", 0, ("free",), "a 0 a 1")
        self.walks("a = 5 behind behind a", "a", 3, ("free",), "a 3 a 4")
        # b falls below its own place, but a is called at one no less.
        self.walks("a = b\nb = 1 2 c\nc = behind behind behind a", "a", 4, ("free",), "a 4 b 4 c 2 a 5")

    def test_free_behind_a_zip_without_one_between(self):
        self.walks("a = zip 1 a b\nb = behind c\nc = b", "a", 5, ("free",), "a 5 b 2 c 3 b 3")
        self.walks("a = zip b a\nb = behind b", "a", 4, ("free",), "a 4 b 2 b 3")
        self.walks("a = zip b a\nb = c\nc = 1 behind behind b", "a", 4, ("free",), "a 4 b 2 c 2 b 3")

    def test_a_zip_between_so_that_the_walk_goes_on(self):
        self.walks("a = behind behind zip a 6 7 a", "a", 0, ("sign", 7), "a 0 a 1")
        # Here the zip is not on the last way but on the one before it.
        self.walks("a = behind behind zip b c\nb = a\nc = 6 7 c", "a", 0, ("sign", 7), "a 0 b 1 a 1 c 1")
        self.walks("a = b\nb = behind behind zip a c\nc = 6 7 c", "a", 0, ("sign", 7), "a 0 b 0 a 1 b 1 c 1")
        # A greater place again and again, by a zip each time.
        book = "a = behind behind behind behind zip a 5 6 7 8 b\nb = 1 b"
        self.walks(book, "a", 0, ("sign", 8), "a 0 a 2 a 3")
        self.walks(book, "a", 1, ("sign", 7), "a 1")
        self.walks(book, "a", 4, ("free",), "a 4 a 4")
        self.walks(book, "a", 8, ("sign", 1), "a 8 a 6 a 5 b 0")

    def test_a_zip_within_the_sign_ahead(self):
        # At place 0 the zip is not on the way; further on it is.
        self.walks("a = 3 zip a a", "a", 0, ("sign", 3), "a 0")
        self.walks("a = 3 zip a a", "a", 1, ("sign", 3), "a 1 a 0")
        self.walks("a = 3 zip a a", "a", 7, ("sign", 3), "a 7 a 3 a 1 a 0")

    def test_a_call_of_the_other_name_does_not_end_the_walk(self):
        self.walks("a = behind b\nb = behind c\nc = 1 2 3 4 c", "a", 0, ("sign", 3), "a 0 b 1 c 2")
        self.walks("a = 1 2 b\nb = behind a", "a", 3, ("sign", 2), "a 3 b 1 a 2 b 0 a 1")

    def test_places_0_1_2000(self):
        book = "a = zip b 5 a\nb = zip 4 b a"
        self.walks(book, "a", 0, ("sign", 4), "a 0 b 0")
        self.walks(book, "a", 1, ("sign", 5), "a 1")
        calls = "a 2000 b 1000 b 499 a 249 a 123 a 60 b 30 b 14 b 6 b 2 b 0"
        self.walks(book, "a", 2000, ("sign", 4), calls)
        self.walks(book, "b", 1000, ("sign", 4), calls.replace("a 2000 ", ""))

    def test_chains_of_eight_names(self):
        names = "abcdefgh"
        chain = "\n".join(f"{name} = {other}" for name, other in zip(names, names[1:]))
        wanted = [(name, place) for place in range(2000, -1, -1) for name in names]
        self.assertEqual(("sign", 9, wanted), walk(read_book(chain + "\nh = 9 a"), "a", 2000))
        told = walk(read_book(chain + "\nh = a"), "a", 2000)
        self.assertEqual(("free", [(name, 2000) for name in names] + [("a", 2000)]), told)
        told = walk(read_book(chain + "\nh = behind d"), "a", 2000)
        self.assertEqual(("free", [(name, 2000) for name in names] + [("d", 2001)]), told)

    def test_chains_of_eight_names_up_and_down(self):
        behinds = "behind " * 9
        rows = [f"{name} = {behinds}{other}" for name, other in zip("abcd", "bcde")]
        rows += [f"{name} = 1 2 3 4 5 6 7 8 9 {other}" for name, other in zip("efg", "fgh")]
        rows.append("h = 9 8 7 6 5 4 3 2 1 a")
        calls = "a 2 b 11 c 20 d 29 e 38 f 29 g 20 h 11 a 2"
        self.walks("\n".join(rows), "a", 2, ("free",), calls)
        rows[0] = "a = " + "behind " * 8 + "b"
        places = [("a", 0), ("b", 8), ("c", 17), ("d", 26), ("e", 35), ("f", 26), ("g", 17), ("h", 8)]
        wanted = [(name, place + more) for more in range(2000, -1, -1) for name, place in places]
        self.assertEqual(("sign", 1, wanted), walk(read_book("\n".join(rows)), "a", 2000))

    def test_many_zips(self):
        names = "abcdefgh"
        rows = [f"{name} = zip {other} 3 behind {other}" for name, other in zip(names, names[1:] + "a")]
        book = read_book("\n".join(rows))
        for name in names:
            for n in list(range(40)) + [1024, 1999, 2000]:
                self.assertEqual(plain_walk(book, name, n), walk(book, name, n))

    def test_against_the_words_of_the_document(self):
        rng = random.Random(4)
        ends = {"sign": 0, "free": 0}
        for _ in range(600):
            book = random_book(rng, rng.randrange(1, 9), rng.randrange(2, 10))
            for n in list(range(12)) + [rng.randrange(300)]:
                for name, _ in book:
                    told = walk(book, name, n)
                    self.assertEqual(plain_walk(book, name, n), told, (book, name, n))
                    ends[told[0]] += 1
        self.assertGreater(min(ends.values()), 1000)

    def test_signs_are_those_that_the_equations_give(self):
        rng = random.Random(5)
        for _ in range(150):
            book = random_book(rng, rng.randrange(1, 5), rng.randrange(2, 9))
            known = known_signs(book, 160)
            for name, _ in book:
                for n in range(30):
                    told = walk(book, name, n)
                    self.assertEqual(known[name][n], told[1] if told[0] == "sign" else None, (book, name, n))

    def test_where_it_is_free_the_sign_may_be_any(self):
        rng = random.Random(6)
        for _ in range(60):
            book = random_book(rng, rng.randrange(1, 5), rng.randrange(2, 8))
            for filler in (0, 4, 9):
                def sign(name, n):
                    told = walk(book, name, n)
                    return told[1] if told[0] == "sign" else filler

                for name, _ in book:
                    for n in range(20):
                        thing = hangs(term_of(book, name), n)
                        self.assertEqual(sign(name, n), thing[1] if thing[0] == "sign" else sign(*thing[1:]))

    def test_no_name(self):
        for name in ("", "c", "zip", "a b"):
            with self.assertRaises(NoName):
                walk(EXAMPLE, name, 0)
        with self.assertRaises(NoName):
            walk((), "a", 0)

    def test_a_new_list_of_calls_each_time(self):
        for book, name, n in ((EXAMPLE, "a", 3), (read_book("a = a"), "a", 0)):
            one = walk(book, name, n)
            other = walk(book, name, n)
            self.assertIs(tuple, one.__class__)
            self.assertIs(list, one[-1].__class__)
            self.assertEqual(one, other)
            self.assertIsNot(one[-1], other[-1])
            other[-1].clear()
            self.assertNotEqual([], one[-1])
            self.assertEqual(one, walk(book, name, n))

    def test_nothing_is_changed_and_by_their_names(self):
        book = copy.deepcopy(EXAMPLE)
        self.assertEqual(("sign", 1, [("a", 2), ("a", 0)]), walk(book=book, name="a", n=2))
        self.assertEqual(("sign", 1, [("b", 1), ("a", 0)]), walk(n=1, name="b", book=book))
        self.assertEqual(EXAMPLE, book)
