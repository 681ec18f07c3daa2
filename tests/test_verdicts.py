"""Which names have just one row [3, 5, 7, 8, 11, 14]."""

import copy
import random
import unittest

from tests.plain import plain_least, row
from tests.things import MORSE, free_at, random_book, random_term, ring, turning, within
from zipspring.books import is_book
from zipspring.errors import NoName, TooBig
from zipspring.least import kernel_many, least
from zipspring.machines import is_machine, sign_at
from zipspring.reads import read_book
from zipspring.telling import book_of
from zipspring.verdicts import verdict
from zipspring.walks import walk

EXAMPLE = read_book("a = zip 1 a b\nb = 0 a")


def book_by(rows):
    return read_book("\n".join(rows))


def zip_book(rng, many, room):
    """A book in which a zip stands on each way from a name to a name, so that walks from far out are short."""
    names = [chr(97 + number) for number in range(many)]
    return tuple(
        (name, ("zip", random_term(rng, names, room // 2, 9), random_term(rng, names, room // 2, 9))) for name in names
    )


class Verdicts(unittest.TestCase):
    def one(self, text, name, signs):
        """The name has just one row in the book of the text, which begins with the signs."""
        told = self.as_walked(read_book(text), name, 300)
        with self.subTest(text):
            self.assertEqual("one", told[0])
            self.assertEqual(signs, "".join(str(sign) for sign in row(told[1], len(signs))))

    def more(self, text, name, n):
        with self.subTest(text):
            self.assertEqual(("more", n), self.as_walked(read_book(text), name, 300))

    def too_big(self, book, name):
        with self.assertRaises(TooBig) as caught:
            verdict(book, name)
        self.assertIs(TooBig, caught.exception.__class__)

    def as_walked(self, book, name, many):
        """The verdict, after it was held against the walks from the first places, and from the told one."""
        told = verdict(book, name)
        self.assertIs(tuple, told.__class__)
        self.assertEqual(2, len(told))
        if told[0] == "one":
            machine = told[1]
            self.assertTrue(is_machine(machine), (book, name))
            self.assertEqual(plain_least(machine), machine)
            for n in range(many):
                self.assertEqual(("sign", sign_at(machine, n)), walk(book, name, n)[:2], (book, name, n))
            return told
        self.assertEqual("more", told[0])
        self.assertEqual("free", walk(book, name, told[1])[0], (book, name))
        for n in range(min(many, told[1])):
            self.assertEqual("sign", walk(book, name, n)[0], (book, name, n))
        return told

    def test_one_by_a_sign_ahead(self):
        for sign in range(10):
            self.assertEqual(("one", ((sign, 0, 0),)), verdict(read_book(f"a = {sign} a"), "a"))
        self.assertEqual(("one", ((0, 1, 2), (0, 1, 1), (1, 2, 2))), verdict(read_book("a = 0 1 a"), "a"))
        self.one("a = 1 2 3 a", "a", "123123123123")
        self.one("a = 1 b\nb = 2 a", "a", "121212")
        self.one("a = 1 b\nb = 2 a", "b", "212121")
        self.one("a = 1 2 3 b\nb = 4 5 b", "a", "12345454545")

    def test_one_by_behinds(self):
        self.assertEqual(("one", ((0, 0, 1), (1, 1, 1))), verdict(read_book("a = 0 1 behind a"), "a"))
        self.one("a = behind 0 1 2 a", "a", "12121212")
        self.one("a = 0 1 2 behind a", "a", "0121212")
        self.one("a = 0 1 2 3 behind behind a", "a", "0123232323")
        self.one("a = behind b\nb = 1 2 3 a", "a", "232323")
        self.one("a = behind b\nb = 1 2 3 a", "b", "1232323")
        self.one("a = behind behind behind b\nb = 0 0 0 5 6 b", "a", "5600056000")
        self.one("a = 1 behind behind b\nb = 2 3 behind 4 5 6 b", "a", "1562356235")
        # Less is skipped in each round, till signs are come to.
        self.one("a = behind behind behind behind behind behind behind b\nb = 0 1 2 b", "a", "12012012")

    def test_one_by_zips(self):
        self.one("a = zip 1 a b\nb = 0 a", "a", "101100111")
        self.one("a = zip 1 a b\nb = 0 a", "b", "0101100111")
        self.one("a = zip b c\nb = 1 b\nc = 2 3 c", "a", "121312131213")
        self.one("a = zip 1 2 a 3 behind a", "a", "13231233")
        self.one("a = zip zip b c zip d e\nb = 1 b\nc = 2 c\nd = 3 d\ne = 4 e", "a", "132413241324")
        self.assertEqual(("one", ((4, 0, 0),)), verdict(read_book("a = zip 4 a a"), "a"))
        # A row of its own halves, with another sign put ahead.
        self.assertEqual(("one", MORSE), verdict(book_of(MORSE), "a"))
        self.assertEqual(("one", ((1, 0, 1), (0, 1, 0))), verdict(book_of(MORSE), "b"))

    def test_one_by_all_in_one_another(self):
        self.one("a = behind zip 1 4 behind a 2 3 a", "a", "24342344")
        self.one("a = 1 behind zip b behind 2 zip a 3 b\nb = 4 zip 5 6 b a", "a", "115311641")
        self.one("a = 9 behind zip a b\nb = behind 8 7 behind zip b a", "b", "799797799779799")

    def test_one_late(self):
        # Place 0 is come to by nine zips one behind the other.
        nine = "zip " * 9
        rows = " ".join(["b"] * 10)
        self.one(f"a = {nine}{rows}\nb = 6 b", "a", "6666")
        # Only behind eight names a sign is come to.
        names = "abcdefgh"
        rows = [f"{name} = {other}" for name, other in zip(names, names[1:])]
        self.one("\n".join(rows) + "\nh = 9 a", "a", "9999")
        self.one("\n".join(rows) + "\nh = zip 1 2 a a", "c", "112112")

    def test_more_at_once(self):
        self.more("a = a", "a", 0)
        self.more("a = b\nb = a", "a", 0)
        self.more("a = b\nb = a", "b", 0)
        self.more("a = behind a", "a", 0)
        self.more("a = behind 1 a", "a", 0)
        self.more("a = behind behind 1 a", "a", 0)
        self.more("a = zip a b\nb = 0 b", "a", 0)
        self.more("a = behind zip 1 a b\nb = a", "a", 0)
        self.more("a = zip a a", "a", 0)

    def test_more_later(self):
        self.more("a = 0 behind a", "a", 1)
        self.more("a = 0 0 behind behind a", "a", 2)
        self.more("a = 0 1 behind behind behind a", "a", 2)
        self.more("a = 1 2 3 b\nb = b", "a", 3)
        self.more("a = zip b behind a\nb = 1 b", "a", 1)
        self.more("a = zip b behind behind a\nb = 1 b", "a", 3)
        self.more("a = zip b behind behind behind a\nb = 1 b", "a", 5)
        self.more("a = zip 1 2 3 4 5 b b\nb = b", "a", 1)
        self.more("a = zip 1 2 3 b 1 2 b\nb = b", "a", 5)
        self.more("a = zip 1 2 b 1 2 3 b\nb = b", "a", 4)
        self.more("a = 1 2 3 4 5 6 7 8 9 b\nb = 1 2 3 4 5 6 7 8 9 c\nc = 1 2 behind behind c", "a", 20)

    def test_the_least_free_place_of_several(self):
        # By zips the odd ones are free early, but some even one is free ahead of them.
        self.more("a = zip 1 2 3 4 5 b 1 2 3 4 b\nb = b", "a", 9)
        self.more("a = zip 1 2 3 b 1 2 3 4 b\nb = b", "a", 6)
        self.more("a = zip zip 1 2 b 1 b zip 1 b 1 2 b\nb = b", "a", 5)
        self.more("a = zip zip 1 b 1 2 b zip 1 2 b 1 b\nb = b", "a", 4)
        # Both halves are free at one place: in the even one it is the greater one by far, then the lesser one.
        rows = free_at(2 ** 30 + 2 ** 29, "abcd")
        self.assertEqual(("more", 2 ** 30 + 2 ** 29), verdict(book_by(rows), "a"))
        self.assertEqual(("more", 3), verdict(book_by([*rows, "e = zip a 0 y"]), "e"))
        self.assertEqual(("more", 2), verdict(book_by([*rows, "e = zip 0 y a"]), "e"))
        self.assertEqual(("more", 2 ** 31 + 2 ** 30), verdict(book_by([*rows, "e = zip a 0 a"]), "e"))
        self.assertEqual(("more", 2 ** 31 + 2 ** 30 + 1), verdict(book_by([*rows, "e = zip 0 a a"]), "e"))

    def test_more_far_out(self):
        rng = random.Random(30)
        places = [2001, 2 ** 11, 2 ** 20, 2 ** 20 + 1, 2 ** 21 - 1, 10 ** 12, 2 ** 53, 2 ** 54 - 1]
        places += [rng.randrange(2 ** bits) for bits in range(1, 55)]
        for place in places:
            book = book_by(free_at(place))
            self.assertTrue(is_book(book))
            self.assertEqual(("more", place), verdict(book, "a"))
            self.assertEqual("free", walk(book, "a", place)[0])
            for lesser in [n for n in (0, 1, place // 2, place - 1) if 0 <= n < place]:
                self.assertEqual("sign", walk(book, "a", lesser)[0])
            self.assertEqual(("one", ((0, 0, 0),)), verdict(book, "z"))
            self.assertEqual(("more", 0), verdict(book, "y"))

    def test_more_by_a_place_that_comes_again_behind_zips(self):
        self.more("a = zip behind behind a b\nb = behind a", "a", 0)
        self.more("a = behind behind behind behind zip a 5 6 7 8 b\nb = 1 b", "a", 4)
        # The calls are a 3, c 1, b 6, a 3; then a 5, c 2, b 10, a 5.
        for behinds, n in ((5, 3), (8, 5)):
            self.more(f"a = zip d c\nb = zip a d\nc = {'behind ' * behinds}b\nd = 1 d", "a", n)

    def test_one_name_has_one_row_and_another_has_more(self):
        text = "a = 1 a\nb = b\nc = zip a b\nd = zip a 2 d\ne = zip 3 e c"
        book = read_book(text)
        self.assertEqual(("one", ((1, 0, 0),)), verdict(book, "a"))
        self.more(text, "b", 0)
        self.more(text, "c", 1)
        self.one(text, "d", "12111211")
        self.more(text, "e", 3)

    def test_rings_of_names(self):
        names = "abcdefgh"
        ring_rows = [f"{name} = {other}" for name, other in zip(names, names[1:] + "a")]
        for name in names:
            self.more("\n".join(ring_rows), name, 0)
        for at, name in enumerate(names):
            signed = [line.replace("= ", "= 5 ") if line[0] == name else line for line in ring_rows]
            for other in names:
                self.assertEqual(("one", ((5, 0, 0),)), verdict(book_by(signed), other))
            back = [line.replace("= ", "= behind ") if line[0] == names[at - 3] else line for line in signed]
            for other in names:
                told = self.as_walked(book_by(back), other, 20)
                self.assertEqual("more", told[0])
        # Rings through zips.
        zips = [f"{name} = zip {other} 3 behind {other}" for name, other in zip(names, names[1:] + "a")]
        for name in names:
            self.more("\n".join(zips), name, 0)
        zips[3] = "d = zip 4 e 3 behind e"
        for name in names:
            self.assertEqual("one", self.as_walked(book_by(zips), name, 100)[0])

    def test_ten_within_and_twenty_in_all(self):
        self.one("a = 1 2 3 4 5 6 7 8 9 a", "a", "123456789123456789")
        self.one("a = behind behind behind 4 5 6 7 8 9 a", "a", "789789")
        self.assertEqual(("more", 0), verdict((("a", within(10)),), "a"))
        twenty = "zip 1 2 3 4 5 6 7 8 a 8 7 6 5 4 zip a 3 behind a"
        self.assertEqual(20, len(twenty.split()))
        self.one(f"a = {twenty}", "a", "18273645546173881882")
        names = "abcdefgh"
        rows = [f"{name} = zip 1 2 3 4 5 6 zip a {other} 8 7 6 5 4 zip {name} 3 behind {other}"
                for name, other in zip(names, names[1:] + "a")]
        for name in "ae":
            self.assertEqual("one", self.as_walked(book_by(rows), name, 200)[0])

    def test_rows_that_turn(self):
        for word in ("12", "123", "1123", "10010", "1234567", "120000000", "121212", "11111", "0", "12345678901234567"):
            told = verdict(book_by(ring(word, "ab")), "a")
            self.assertEqual(("one", plain_least(turning(word))), told)
        word = "12" + "0" * 23
        told = verdict(book_by(ring(word, "abc")), "a")
        self.assertEqual(500, len(told[1]))
        self.assertEqual(("one", least(turning(word))), told)
        self.assertEqual([int(sign) for sign in word * 8], row(told[1], 200))
        word = "12" + "0" * 25
        self.assertEqual(("one", least(turning(word))), verdict(book_by(ring(word, "abc")), "a"))

    def test_rows_that_turn_with_more_than_500_unlike_rows_in_them(self):
        for many in (29, 37, 53, 59, 61, 67, 71):
            book = book_by(ring("12" + "0" * (many - 2), "abcdefgh"))
            for name in "ah":
                self.too_big(book, name)

    def test_exactly_500_and_501(self):
        # Each zip adds one unlike row to the 486 of a row that turns by 27 signs.
        turns = ring("12" + "0" * 25, "abc")
        for many in (13, 14, 15, 16):
            rows = [*turns, "d = " + "zip a " * min(many, 8) + "e", "e = " + "zip a " * (many - 8) + "f", "f = 9 f"]
            book = book_by(rows)
            # The row of nines is one more.
            if many <= 13:
                told = verdict(book, "d")
                self.assertEqual(("one", 487 + many), (told[0], len(told[1])))
                self.assertEqual(least(told[1]), told[1])
                for n in range(200):
                    self.assertEqual(walk(book, "d", n)[1], sign_at(told[1], n))
            else:
                self.too_big(book, "d")

    def test_too_big_only_by_the_name_s_own_row(self):
        big = ring("12" + "0" * 27, "abcd")
        self.too_big(book_by(big), "a")
        # A name that does not hang on the big one, and one that is free.
        book = book_by([*big, "e = 1 e", "f = zip a f", "g = zip a 3 f", "h = h"])
        self.assertEqual(("one", ((1, 0, 0),)), verdict(book, "e"))
        self.too_big(book, "f")
        self.too_big(book, "g")
        self.assertEqual(("more", 0), verdict(book, "h"))
        book = book_by([*big, "e = zip a f", "f = 1 2 behind behind f"])
        self.assertEqual(("more", 5), verdict(book, "e"))
        self.too_big(book, "a")
        # All the signs are alike: however many terms, there is one state.
        book = book_by(ring("4" * 72, "abcdefgh"))
        self.assertEqual(("one", ((4, 0, 0),)), verdict(book, "a"))
        # The name it hangs on has too big a machine, but without the first sign it is small enough.
        word = "12" + "0" * 23
        book = book_by([*ring(word, "abc"), "d = 7 a", "e = behind d"])
        self.too_big(book, "d")
        self.assertEqual(("one", least(turning(word))), verdict(book, "e"))

    def test_too_big_by_zips(self):
        names = "bcdefgh"
        pairs = list(zip(names, names[1:] + "a"))
        rows = [f"{name} = 3 1 4 1 5 9 2 6 {at} {other}" for at, (name, other) in enumerate(pairs)]
        book = book_by(["a = zip b 2 7 1 8 2 8 1 8 b", *rows])
        self.too_big(book, "a")
        for n in range(200):
            self.assertEqual("sign", walk(book, "a", n)[0])

    def test_no_name(self):
        big = book_by(ring("12" + "0" * 27, "abcd"))
        others = ("", " ", "b", "aa", "A", "zip", "behind", "row", "=", "a = a", "a b", " a", "a ", "0", "~")
        others += ("a" * 4000,)
        for book in ((), read_book("a = a"), read_book("a = 1 a"), big):
            for name in others:
                if name not in [known for known, _ in book]:
                    with self.assertRaises(NoName) as caught:
                        verdict(book, name)
                    self.assertIs(NoName, caught.exception.__class__)
        with self.assertRaises(NoName):
            verdict((), "a")

    def test_against_walks(self):
        rng = random.Random(31)
        ends = {"one": 0, "more": 0}
        for _ in range(400):
            book = random_book(rng, rng.randrange(1, 9), rng.randrange(2, 21))
            for name, _ in book:
                told = self.as_walked(book, name, 60)
                ends[told[0]] += 1
                if told[0] == "one":
                    free = [n for n in range(100, 2001, 190) if walk(book, name, n)[0] == "free"]
                    self.assertEqual([], free)
        self.assertGreater(min(ends.values()), 300)

    def test_against_walks_from_far_out(self):
        rng = random.Random(32)
        ends = {"one": 0, "more": 0}
        for _ in range(250):
            book = zip_book(rng, rng.randrange(1, 5), rng.randrange(4, 19))
            for name, _ in book:
                told = self.as_walked(book, name, 100)
                ends[told[0]] += 1
                if told[0] == "one":
                    for n in (2000, 10 ** 18, 10 ** 59, 10 ** 60 - 1, rng.randrange(10 ** 60)):
                        self.assertEqual(("sign", sign_at(told[1], n)), walk(book, name, n)[:2], (book, name, n))
        self.assertGreater(min(ends.values()), 60)

    def test_the_order_of_the_equations_makes_no_difference(self):
        rng = random.Random(33)
        for _ in range(100):
            book = random_book(rng, rng.randrange(2, 9), rng.randrange(2, 15))
            mixed = list(book)
            rng.shuffle(mixed)
            for name, _ in book:
                self.assertEqual(verdict(book, name), verdict(tuple(mixed), name))

    def test_nothing_is_changed_the_same_again_and_by_their_names(self):
        book = copy.deepcopy(EXAMPLE)
        told = verdict(EXAMPLE, "a")
        self.assertEqual(told, verdict(book=book, name="a"))
        self.assertEqual(told, verdict(name="a", book=book))
        self.assertEqual(EXAMPLE, book)
        self.assertEqual(("more", 0), verdict(name="a", book=read_book("a = a")))
