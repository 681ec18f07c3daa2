"""Terms and books as texts [6]."""

import copy
import unittest

from tests.things import A, B, within
from zipspring.shows import show_book, show_term

C = ("row", "c")


class ShowTerm(unittest.TestCase):
    def test_a_name(self):
        for name in ("a", "z", "row", "sign", "even", "abcdefgh"):
            self.assertEqual(name, show_term(("row", name)))

    def test_a_sign_ahead(self):
        for sign in range(10):
            self.assertEqual(f"{sign} a", show_term(("sign", sign, A)))

    def test_behind(self):
        self.assertEqual("behind a", show_term(("behind", A)))
        self.assertEqual("behind abcdefgh", show_term(("behind", ("row", "abcdefgh"))))

    def test_zip(self):
        self.assertEqual("zip a b", show_term(("zip", A, B)))
        self.assertEqual("zip b a", show_term(("zip", B, A)))
        self.assertEqual("zip a a", show_term(("zip", A, A)))

    def test_terms_within_one_another(self):
        texts = {
            "1 2 3 a": ("sign", 1, ("sign", 2, ("sign", 3, A))),
            "behind 0 behind a": ("behind", ("sign", 0, ("behind", A))),
            "zip 1 a b": ("zip", ("sign", 1, A), B),
            "zip a 1 b": ("zip", A, ("sign", 1, B)),
            "1 zip a b": ("sign", 1, ("zip", A, B)),
            "zip zip a b c": ("zip", ("zip", A, B), C),
            "zip a zip b c": ("zip", A, ("zip", B, C)),
            "zip zip a b zip c a": ("zip", ("zip", A, B), ("zip", C, A)),
            "zip behind zip 7 a b zip c 8 9 a":
                ("zip", ("behind", ("zip", ("sign", 7, A), B)), ("zip", C, ("sign", 8, ("sign", 9, A)))),
        }
        for text, term in texts.items():
            self.assertEqual(text, show_term(term))

    def test_ten_within_one_another_and_twenty_in_all(self):
        self.assertEqual("behind " * 9 + "a", show_term(within(10)))
        term = ("zip", within(9), ("sign", 4, within(9, B)))
        self.assertEqual("zip " + "behind " * 8 + "a 4 " + "behind " * 8 + "b", show_term(term))

    def test_nothing_is_changed_and_the_same_is_told_again(self):
        term = ("zip", ("sign", 1, A), ("behind", B))
        before = copy.deepcopy(term)
        self.assertEqual(show_term(term), show_term(term))
        self.assertEqual(before, term)

    def test_by_its_name(self):
        self.assertEqual("5 a", show_term(term=("sign", 5, A)))


class ShowBook(unittest.TestCase):
    def test_no_equations(self):
        self.assertEqual("", show_book(()))

    def test_one(self):
        self.assertEqual("a = a", show_book((("a", A),)))
        self.assertEqual("long = zip 1 long behind long", show_book((
            ("long", ("zip", ("sign", 1, ("row", "long")), ("behind", ("row", "long")))),
        )))

    def test_two_in_their_order(self):
        one = ("a", ("zip", ("sign", 1, A), B))
        other = ("b", ("sign", 0, A))
        self.assertEqual("a = zip 1 a b\nb = 0 a", show_book((one, other)))
        self.assertEqual("b = 0 a\na = zip 1 a b", show_book((other, one)))

    def test_eight(self):
        book = tuple((name, ("sign", number, A)) for number, name in enumerate("hgfedcba"))
        rows = ["h = 0 a", "g = 1 a", "f = 2 a", "e = 3 a", "d = 4 a", "c = 5 a", "b = 6 a", "a = 7 a"]
        self.assertEqual("\n".join(rows), show_book(book))

    def test_nothing_is_changed_and_the_same_is_told_again(self):
        book = (("a", ("zip", ("sign", 1, A), B)), ("b", ("sign", 0, A)))
        before = copy.deepcopy(book)
        self.assertEqual(show_book(book), show_book(book))
        self.assertEqual(before, book)

    def test_by_its_name(self):
        self.assertEqual("a = 5 a", show_book(book=(("a", ("sign", 5, A)),)))
