"""Texts read as terms and books [6]."""

import random
import string
import unittest

from tests.things import A, B, random_book, random_term
from zipspring.books import is_book
from zipspring.errors import NoText
from zipspring.reads import read_book, read_term
from zipspring.shows import show_book, show_term
from zipspring.terms import is_term

ALMOST = 3990
# Signs that stand in no word of a term.
OTHER_SIGNS = [sign for sign in string.punctuation if sign not in "%"]


def filled(word, apart=" "):
    """The word again and again, to nearly four thousand signs."""
    return apart.join([word] * (ALMOST // (len(word) + len(apart))))


class Refusing(unittest.TestCase):
    """A base for tests of a function that reads a text or refuses it; each class below sets its own."""

    read = None

    def refused(self, *texts):
        for text in texts:
            with self.subTest(text[:80]):
                # A deep term must not be shown or compared by the test itself, so only the refusal is looked at.
                with self.assertRaises(NoText) as caught:
                    self.read(text)
                self.assertIs(NoText, caught.exception.__class__)


class ReadTerm(Refusing):
    read = staticmethod(read_term)

    def test_four_forms(self):
        self.assertEqual(A, read_term("a"))
        self.assertEqual(("row", "abcdefgh"), read_term("abcdefgh"))
        for sign in range(10):
            self.assertEqual(("sign", sign, A), read_term(f"{sign} a"))
            self.assertIs(int, read_term(f"{sign} a")[1].__class__)
        self.assertEqual(("behind", A), read_term("behind a"))
        self.assertEqual(("zip", A, B), read_term("zip a b"))
        self.assertEqual(("zip", B, A), read_term("zip b a"))

    def test_terms_within_one_another(self):
        self.assertEqual(("zip", ("sign", 1, A), B), read_term("zip 1 a b"))
        self.assertEqual(("zip", A, ("sign", 1, B)), read_term("zip a 1 b"))
        self.assertEqual(("sign", 1, ("zip", A, B)), read_term("1 zip a b"))
        self.assertEqual(("zip", ("zip", A, B), ("row", "c")), read_term("zip zip a b c"))
        self.assertEqual(("zip", A, ("zip", B, ("row", "c"))), read_term("zip a zip b c"))
        self.assertEqual(("behind", ("sign", 0, ("behind", B))), read_term("behind 0 behind b"))

    def test_words_that_are_names(self):
        for name in ("row", "sign", "zi", "zips", "azip", "behin", "behinds", "call", "free", "even", "odd"):
            self.assertEqual(("row", name), read_term(name))
            self.assertEqual(("zip", ("row", name), ("behind", ("row", name))), read_term(f"zip {name} behind {name}"))

    def test_what_was_written_is_read_back(self):
        rng = random.Random(1)
        for _ in range(2000):
            term = random_term(rng, ["a", "b", "row", "zips", "abcdefgh"])
            self.assertTrue(is_term(term))
            self.assertEqual(term, read_term(show_term(term)))

    def test_what_is_read_is_written_back_and_all_else_is_refused(self):
        """Each text of up to four words is read as a term just where a plain count of its words says so."""
        words = ["a", "3", "behind", "zip"]
        texts = [[]]
        for _ in range(4):
            texts = texts + [text + [word] for text in texts for word in words]
        for text in texts[1:]:
            shown = " ".join(text)
            if plainly_one_term(text):
                self.assertEqual(shown, show_term(read_term(shown)))
            else:
                self.refused(shown)

    def test_a_word_too_many(self):
        self.refused("a b", "a a", "a 1", "1 a b", "1 a 1", "behind a b", "behind a behind", "zip a b c", "zip a b zip")
        self.refused("zip 1 a b 0", "zip a b behind a")

    def test_a_word_too_few(self):
        self.refused("1", "0", "behind", "zip", "zip a", "zip 1 a", "1 2 3", "behind behind", "behind 1", "zip zip a b")
        self.refused("zip a behind", "zip behind a", "1 zip a", "zip a 7")

    def test_words_exchanged(self):
        self.refused("a 1", "a behind", "a zip b", "a b zip", "zip a b 1", "a zip", "a 1 b", "1 a 2")

    def test_the_text_without_signs(self):
        self.refused("")

    def test_blanks(self):
        for text in ("a", "1 a", "behind a", "zip a b", "zip 1 a behind b"):
            self.assertEqual(text, show_term(read_term(text)))
            self.refused(" " + text, text + " ", " " + text + " ", "  " + text, text + "  ")
            if " " in text:
                self.refused(text.replace(" ", "  ", 1), text.replace(" ", "  "), text.replace(" ", "\t"))
        self.refused(" ", "  ", "zip a  b", "zip  a b", "1  a")

    def test_line_ends(self):
        self.refused("a\n", "\na", "1\na", "zip a\nb", "\n", "a\nb")

    def test_figures(self):
        self.refused("10 a", "00 a", "01 a", "99 a", "-1 a", "+1 a", "1. a", "1a", "a1", "0x1 a", "1_ a", "123 a")
        # These are figures or digits for Python, but none of ours.
        self.refused("\u0661 a", "\u00b2 a", "\uff11 a")

    def test_great_letters(self):
        self.refused("A", "Zip a b", "ZIP a b", "zip A b", "zip a B", "Behind a", "BEHIND a", "behind A", "1 A", "aB")

    def test_other_signs(self):
        for sign in OTHER_SIGNS:
            self.refused(sign, sign + "a", "a" + sign, sign + " a", "1 " + sign, "zip a " + sign, "behind a" + sign)
        self.refused("a = a", "a=a", "(a)", "zip(a,b)", "zip a, b", "\u00e9")

    def test_long_names(self):
        self.assertEqual(("row", "abcdefgh"), read_term("abcdefgh"))
        self.refused("abcdefghi", "1 abcdefghi", "zip a abcdefghi", "zip abcdefghi a", "behind abcdefghi")

    def test_ten_and_eleven_within_one_another(self):
        for word in ("behind ", "0 ", "9 "):
            for many in range(10):
                text = word * many + "a"
                self.assertEqual(text, show_term(read_term(text)))
            for many in range(10, 40):
                self.refused(word * many + "a")
        text = "zip a " * 9 + "a"
        self.assertEqual(text, show_term(read_term(text)))
        self.refused("1 " + "zip a " * 9 + "a", "zip a " * 9 + "1 a")
        text = "zip " * 9 + "a" + " a" * 9
        self.assertEqual(text, show_term(read_term(text)))
        self.refused("zip " * 10 + "a" + " a" * 10, "zip " * 9 + "1 a" + " a" * 9)

    def test_twenty_and_twenty_one_in_all(self):
        twenty = "zip behind zip zip a b zip a b zip zip a b zip a zip a zip a b"
        self.assertEqual(20, len(twenty.split()))
        self.assertEqual(twenty, show_term(read_term(twenty)))
        self.refused("behind " + twenty, twenty[:-1] + "1 b", twenty.replace("behind", "behind behind"))
        flat = "zip zip zip zip a a zip a a zip zip a a zip a a zip zip a a a"
        self.assertEqual(21, len(flat.split()))
        self.refused(flat)

    def test_long_texts(self):
        for word in ("zip", "behind", "1", "9", "a", "abcdefgh", "=", "zip a", "1 a", "zip 1", "behind 1 zip"):
            self.refused(filled(word), filled(word) + " a", "a " + filled(word))
        for sign in "aZ1= ~-":
            self.refused(sign * ALMOST, "1 " + sign * ALMOST, sign * ALMOST + " a")
        # These are written rightly, but have far more terms than there may be.
        self.refused("behind " * 550 + "a", "1 " * 1990 + "a", "zip a " * 660 + "a", "zip " * 660 + "a " * 660 + "a")
        self.refused(filled("a", "\n"), filled("a = a", "\n"))

    def test_the_same_again(self):
        for _ in range(3):
            self.assertEqual(("zip", ("sign", 1, A), B), read_term("zip 1 a b"))
            self.refused("zip 1 a")

    def test_by_its_name(self):
        self.assertEqual(("sign", 5, A), read_term(text="5 a"))


def plainly_one_term(words):
    """Whether the terms that are still due are none at the end of the words, and not before."""
    due = 1
    for word in words:
        if due == 0:
            return False
        due += {"a": -1, "3": 0, "behind": 0, "zip": 1}[word]
    return due == 0


class ReadBook(Refusing):
    read = staticmethod(read_book)

    def test_no_equations(self):
        self.assertEqual((), read_book(""))

    def test_one_and_two(self):
        self.assertEqual((("a", A),), read_book("a = a"))
        self.assertEqual((("abcdefgh", ("behind", ("row", "abcdefgh"))),), read_book("abcdefgh = behind abcdefgh"))
        one = ("a", ("zip", ("sign", 1, A), B))
        other = ("b", ("sign", 0, A))
        self.assertEqual((one, other), read_book("a = zip 1 a b\nb = 0 a"))
        self.assertEqual((other, one), read_book("b = 0 a\na = zip 1 a b"))

    def test_eight_and_nine(self):
        rows = [f"{name} = {number} b" for number, name in enumerate("habcdefg")]
        for many in range(3, 9):
            text = "\n".join(rows[:many])
            self.assertEqual(text, show_book(read_book(text)))
        self.assertEqual(("h", ("sign", 0, B)), read_book("\n".join(rows))[0])
        self.refused("\n".join(rows + ["i = 8 b"]), "\n".join(["i = 8 b"] + rows), "\n".join(rows + ["i = i", "j = j"]))

    def test_what_was_written_is_read_back(self):
        rng = random.Random(2)
        for _ in range(300):
            for many in range(9):
                book = random_book(rng, many, rng.randrange(1, 21))
                self.assertTrue(is_book(book))
                self.assertEqual(book, read_book(show_book(book)))

    def test_a_row_twice_and_a_name_told_twice(self):
        self.refused("a = a\na = a", "a = a\na = 1 a", "a = a\nb = b\na = b", "b = 0 a\na = a\nb = 0 a")

    def test_a_name_without_equation(self):
        self.refused("a = b", "a = zip a b", "a = 1 behind zip b a", "a = a\nb = c", "a = zip b c\nb = 1 a", "ab = aa")

    def test_a_name_that_is_none(self):
        self.refused("zip = 1 a\na = a", "behind = a\na = a", "A = 1 a\na = a", "abcdefghi = 1 a\na = a")
        self.refused("1 = a\na = a", "a. = a", "a = a\na. = a")
        self.refused("a = a\nzip = a", "a = a\n = a", "a = a\na1 = a", "= = a\na = a", "a = a\nB = a", "a = =")

    def test_line_ends_too_many(self):
        for text in ("a = a", "a = zip 1 a b\nb = 0 a"):
            self.refused("\n" + text, text + "\n", "\n" + text + "\n", "\n\n" + text, text + "\n\n")
        self.refused("a = zip 1 a b\n\nb = 0 a", "\n", "\n\n", "a = a\n ", " \na = a", "a =\na", "a\n= a")
        self.refused("a = zip a\na")
        self.refused("a = a\r\nb = b", "a = a\r")

    def test_the_sign_between(self):
        self.refused("a", "a a", "a 1 a", "a zip a a", "a = = a", "a == a", "= a", "= a = a", "a=a", "a= a", "a =a")
        self.refused("a = a =", "a is a", "a - a", "a = a = a", "1 a = a", "a a = a", "a = a\nb b")

    def test_a_row_without_words(self):
        self.refused(" ", "  ", "a = a\n", "\na = a", "a =", "a = ", "a = a\nb =", "a =\nb = b", "=", " = ", "= =")

    def test_blanks(self):
        self.refused(" a = a", "a = a ", "a  = a", "a =  a", "a = 1  a", "a\t= a", "a =\ta", "a = a\n b = b")
        self.refused("a = a\nb = b ", "a = a \nb = b", "a = a\nb  = b", "a = a\nb =  b", "a =a", "a= a")

    def test_a_term_that_is_none(self):
        for text in ("1", "zip", "behind", "zip a", "a a", "1 a a", "zip a a a", "10 a", "A", "Zip a a", "a zip a"):
            self.refused(f"a = {text}", f"a = a\nb = {text}", f"b = {text}\na = a")

    def test_limits_of_terms(self):
        text = "a = " + "behind " * 9 + "a"
        self.assertEqual(text, show_book(read_book(text)))
        self.refused("a = " + "behind " * 10 + "a", "b = b\na = " + "behind " * 10 + "a")
        text = "a = behind zip zip zip zip a a zip a a zip zip a a zip a a zip zip a a"
        self.refused(text, text + " a a")
        self.refused("a = zip zip zip zip a a zip a a zip zip a a zip a a zip zip a a a")
        twenty = "a = behind zip zip zip a a zip a a zip zip a a zip zip a a zip a a"
        self.assertEqual(20, len(twenty.split()) - 2)
        self.assertEqual(twenty, show_book(read_book(twenty)))
        self.refused(twenty.replace("behind", "behind 1"))

    def test_long_texts(self):
        for word in ("zip", "behind", "1", "a", "abcdefgh", "=", "a =", "= a", "a = a"):
            for apart in (" ", "\n"):
                self.refused(filled(word, apart), "a = " + filled(word, apart), filled(word, apart) + " = a")
        for sign in "aZ1= ~\n":
            self.refused(sign * ALMOST, "a = " + sign * ALMOST, sign * ALMOST + " = a")
        self.refused("a = " + "behind " * 550 + "a", "a = " + "1 " * 1990 + "a", "a = " + "zip a " * 660 + "a")
        names = [one + other for one in string.ascii_lowercase for other in "abcdefgh"]
        self.refused("\n".join(f"{name} = {name}" for name in names))

    def test_the_same_again(self):
        for _ in range(3):
            self.assertEqual((("a", A),), read_book("a = a"))
            self.refused("a = b")

    def test_by_its_name(self):
        self.assertEqual((("a", A),), read_book(text="a = a"))
