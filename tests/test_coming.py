"""Equations that come one by one [2, 3, 18, 19]."""

import copy
import random
import unittest

from tests.plain import plain_walk
from tests.things import A, random_book, ring, within
from zipspring.books import term_of
from zipspring.coming import Coming
from zipspring.errors import NoName, Told, TooBig, Waits
from zipspring.reads import read_book, read_term
from zipspring.terms import names_in
from zipspring.verdicts import verdict

TEXTS_OF_NO_EQUATION = ("", " ", "zip", "behind", "=", "a b", "A", "abcdefghi", "0", "~", "x" * 4000)


def coming_of(rows):
    """A coming book that was told the rows, in their order."""
    coming = Coming()
    for name, term in book_by(rows):
        coming.tell(name, term)
    return coming


def book_by(rows):
    """The pairs of the rows, whether or not they are a book."""
    return tuple((line.split(" = ")[0], read_term(line.split(" = ")[1])) for line in rows)


def plainly_met(told, name):
    """The names that are met from a name, given the pairs that were told."""
    met = {name}
    while True:
        more = {other for known, term in told if known in met for other in names_in(term)}
        if more <= met:
            return met
        met |= more


def plainly_ready(told):
    names = {name for name, _ in told}
    return sorted(name for name in names if plainly_met(told, name) <= names)


class Base(unittest.TestCase):
    def refused(self, error, ask, *things):
        with self.assertRaises(error) as caught:
            ask(*things)
        self.assertIs(error, caught.exception.__class__)


class Tells(Base):
    def test_nothing_is_told_back(self):
        coming = Coming()
        self.assertIs(None, coming.tell("a", A))
        self.assertIs(None, coming.tell("b", read_term("zip 1 a b")))

    def test_told(self):
        coming = coming_of(["a = 1 a"])
        self.refused(Told, coming.tell, "a", read_term("2 a"))
        self.refused(Told, coming.tell, "a", read_term("1 a"))
        self.assertEqual(("sign", 1), coming.sign("a", 0))
        coming.tell("b", read_term("3 c"))
        self.refused(Told, coming.tell, "b", read_term("3 a"))
        self.assertEqual(("waits", "c"), coming.sign("b", 1))
        # Another name may begin with it.
        coming.tell("aa", read_term("5 aa"))
        self.assertEqual(["a", "aa"], coming.ready())

    def test_a_name_that_waits_is_not_told_yet(self):
        coming = coming_of(["a = 1 b"])
        self.assertEqual(("waits", "b"), coming.sign("a", 1))
        coming.tell("b", read_term("2 a"))
        self.assertEqual(("sign", 2), coming.sign("a", 1))

    def test_a_ninth_equation(self):
        names = "abcdefgh"
        coming = coming_of([f"{name} = {at} {name}" for at, name in enumerate(names)])
        self.assertEqual(list(names), coming.ready())
        for name in ("i", "z", "abcdefgh", "zipp"):
            self.refused(TooBig, coming.tell, name, ("row", name))
            self.refused(NoName, coming.sign, name, 0)
        self.assertEqual(list(names), coming.ready())
        for at, name in enumerate(names):
            self.refused(Told, coming.tell, name, ("row", name))
            self.assertEqual(("sign", at), coming.sign(name, 7))
        self.assertEqual(list(names), coming.ready())

    def test_what_is_refused_does_not_count(self):
        coming = Coming()
        for at, name in enumerate("abcdefgh"):
            coming.tell(name, ("sign", at, ("row", name)))
            for other in "abcdefgh"[:at + 1]:
                self.refused(Told, coming.tell, other, A)
        self.refused(TooBig, coming.tell, "i", A)

    def test_great_terms(self):
        coming = Coming()
        coming.tell("abcdefgh", within(10, ("row", "abcdefgh")))
        coming.tell("b", read_term("zip 1 2 3 4 5 6 7 8 b 8 7 6 5 4 zip b 3 behind b"))
        self.assertEqual(("free",), coming.sign("abcdefgh", 2000))
        self.assertEqual(("sign", 2), coming.sign("b", 19))


class Signs(Base):
    def test_sign_free_and_waits(self):
        coming = coming_of(["a = zip 1 a b", "c = 5 behind c", "d = 1 2 e", "e = zip a f"])
        self.assertEqual(("sign", 1), coming.sign("a", 0))
        self.assertEqual(("waits", "b"), coming.sign("a", 1))
        self.assertEqual(("sign", 1), coming.sign("a", 2))
        self.assertEqual(("sign", 5), coming.sign("c", 0))
        self.assertEqual(("free",), coming.sign("c", 1))
        self.assertEqual(("free",), coming.sign("c", 2000))
        self.assertEqual(("sign", 2), coming.sign("d", 1))
        self.assertEqual(("sign", 1), coming.sign("d", 2))
        self.assertEqual(("waits", "f"), coming.sign("d", 3))
        self.assertEqual(("waits", "b"), coming.sign("d", 4))

    def test_the_name_that_the_walk_comes_to(self):
        # A lesser name is untold, too, but the walk comes to another one.
        coming = coming_of(["m = zip z b", "n = m"])
        self.assertEqual(("waits", "z"), coming.sign("n", 0))
        self.assertEqual(("waits", "b"), coming.sign("n", 1))
        coming.tell("z", read_term("y"))
        self.assertEqual(("waits", "y"), coming.sign("n", 0))
        coming.tell("y", read_term("behind z"))
        self.assertEqual(("free",), coming.sign("n", 0))
        self.assertEqual(("waits", "b"), coming.sign("n", 1))

    def test_places_0_and_2000(self):
        coming = coming_of(["a = 7 a", "b = behind b", "c = 7 8 d"])
        self.assertEqual(("sign", 7), coming.sign("a", 2000))
        self.assertEqual(("free",), coming.sign("b", 2000))
        self.assertEqual(("waits", "d"), coming.sign("c", 2000))
        self.assertEqual(("sign", 7), coming.sign("c", 0))

    def test_no_name(self):
        coming = Coming()
        for name in TEXTS_OF_NO_EQUATION + ("a", "b"):
            self.refused(NoName, coming.sign, name, 0)
        coming.tell("a", read_term("b"))
        for name in TEXTS_OF_NO_EQUATION + ("b",):
            self.refused(NoName, coming.sign, name, 2000)
        self.assertEqual(("waits", "b"), coming.sign("a", 0))

    def test_against_the_words_of_the_document_and_what_was_told_stays(self):
        rng = random.Random(80)
        met = {"sign": 0, "free": 0, "waits": 0}
        for _ in range(120):
            book = list(random_book(rng, rng.randrange(1, 9), rng.randrange(2, 10)))
            rng.shuffle(book)
            coming, stays = Coming(), {}
            for at, (name, term) in enumerate(book):
                coming.tell(name, term)
                for known, _ in book[:at + 1]:
                    for n in list(range(10)) + [rng.randrange(200)]:
                        wanted = plain_walk(book[:at + 1], known, n)
                        wanted = ("free",) if wanted[0] == "free" else wanted[:2]
                        told = coming.sign(known, n)
                        self.assertEqual(wanted, told, (book[:at + 1], known, n))
                        self.assertEqual(stays.get((known, n), told), told)
                        met[told[0]] += 1
                        if told[0] != "waits":
                            stays[known, n] = told
        self.assertGreater(min(met.values()), 1000)


class Ready(Base):
    def test_none_and_some(self):
        coming = Coming()
        self.assertEqual([], coming.ready())
        coming.tell("c", read_term("1 c"))
        self.assertEqual(["c"], coming.ready())
        coming.tell("b", read_term("zip c d"))
        self.assertEqual(["c"], coming.ready())
        coming.tell("a", read_term("c"))
        self.assertEqual(["a", "c"], coming.ready())
        coming.tell("d", read_term("d"))
        self.assertEqual(["a", "b", "c", "d"], coming.ready())

    def test_sorted(self):
        coming = coming_of(["z = z", "b = b", "aa = aa", "ab = ab", "a = a", "zz = zz", "m = m"])
        self.assertEqual(["a", "aa", "ab", "b", "m", "z", "zz"], coming.ready())

    def test_rings_of_names(self):
        names = "abcdefgh"
        coming = Coming()
        for name, other in zip(names, names[1:] + "a"):
            self.assertEqual([], coming.ready())
            coming.tell(name, ("row", other))
        self.assertEqual(list(names), coming.ready())
        # Two rings; the one hangs on the other.
        coming = coming_of(["a = b", "b = zip a c", "d = c"])
        self.assertEqual([], coming.ready())
        coming.tell("c", read_term("1 d"))
        self.assertEqual(["a", "b", "c", "d"], coming.ready())

    def test_names_that_wait_behind_others(self):
        coming = coming_of(["a = b", "b = c", "c = d", "d = 1 2 3 zip e e", "f = f", "g = zip f a"])
        self.assertEqual(["f"], coming.ready())
        coming.tell("e", read_term("1 e"))
        self.assertEqual(list("abcdefg"), coming.ready())

    def test_against_walks_and_terms(self):
        rng = random.Random(81)
        for _ in range(150):
            book = list(random_book(rng, rng.randrange(1, 9), rng.randrange(2, 8)))
            rng.shuffle(book)
            coming = Coming()
            for at, (name, term) in enumerate(book):
                coming.tell(name, term)
                told = coming.ready()
                self.assertEqual(plainly_ready(book[:at + 1]), told)
                for known in told:
                    for n in list(range(20)) + [2000]:
                        self.assertNotEqual("waits", coming.sign(known, n)[0])

    def test_a_name_that_is_not_ready_waits_somewhere(self):
        rng = random.Random(82)
        for _ in range(100):
            book = random_book(rng, 4, 6)
            coming = Coming()
            for name, term in book[1:]:
                coming.tell(name, term)
            ready = coming.ready()
            for name, _ in book[1:]:
                waits = any(coming.sign(name, n)[0] == "waits" for n in range(600))
                self.assertEqual(name not in ready, waits, (book, name))

    def test_a_new_list_each_time(self):
        coming = coming_of(["a = a", "b = b"])
        one, other = coming.ready(), coming.ready()
        self.assertIs(list, one.__class__)
        self.assertIsNot(one, other)
        one.append("c")
        one.reverse()
        other.clear()
        self.assertEqual(["a", "b"], coming.ready())
        self.refused(NoName, coming.sign, "c", 0)


class Verdicts(Base):
    def test_one_and_more(self):
        coming = coming_of(["a = 1 a", "b = 5 behind b", "c = zip a d"])
        self.assertEqual(("one", ((1, 0, 0),)), coming.verdict("a"))
        self.assertEqual(("more", 1), coming.verdict("b"))
        self.refused(Waits, coming.verdict, "c")
        coming.tell("d", read_term("2 d"))
        self.assertEqual(("one", ((1, 1, 2), (1, 1, 1), (2, 2, 2))), coming.verdict("c"))
        self.assertEqual(("one", ((1, 0, 0),)), coming.verdict("a"))

    def test_no_name_then_waits_then_too_big(self):
        coming = Coming()
        for name in TEXTS_OF_NO_EQUATION + ("a",):
            self.refused(NoName, coming.verdict, name)
        for line in ring("12" + "0" * 27, "abcd"):
            name, term = line.split(" = ")
            coming.tell(name, read_term(term))
        coming.tell("e", read_term("zip a f"))
        for name in TEXTS_OF_NO_EQUATION + ("f",):
            self.refused(NoName, coming.verdict, name)
        for name in "abcd":
            self.refused(TooBig, coming.verdict, name)
        self.refused(Waits, coming.verdict, "e")
        coming.tell("f", read_term("f"))
        self.assertEqual(("more", 1), coming.verdict("e"))
        coming.tell("g", read_term("zip a a"))
        self.refused(TooBig, coming.verdict, "g")
        self.assertEqual(list("abcdefg"), coming.ready())

    def test_waits_also_where_the_waiting_name_stands_far_behind(self):
        coming = coming_of(["a = 1 2 3 4 5 6 7 8 9 b", "b = 1 2 3 4 5 6 7 8 9 c", "c = zip a d"])
        for name in "abc":
            self.refused(Waits, coming.verdict, name)
        self.refused(NoName, coming.verdict, "d")
        coming.tell("d", read_term("1 d"))
        for name in "abcd":
            self.assertEqual("one", coming.verdict(name)[0])

    def test_what_does_not_hang_on_the_name_makes_no_difference(self):
        rng = random.Random(83)
        for _ in range(120):
            book = list(random_book(rng, rng.randrange(1, 9), rng.randrange(2, 12)))
            rng.shuffle(book)
            coming, before = Coming(), {}
            for name, term in book:
                coming.tell(name, term)
                for known in coming.ready():
                    told = coming.verdict(known)
                    self.assertEqual(verdict(tuple(book), known), told)
                    self.assertEqual(before.setdefault(known, told), told)
            self.assertEqual(sorted(before), sorted(name for name, _ in book))

    def test_other_names_that_wait_make_no_difference(self):
        coming = coming_of(["b = x", "a = zip 1 a c", "d = zip y a", "c = 0 a"])
        self.assertEqual(["a", "c"], coming.ready())
        self.assertEqual(verdict(read_book("a = zip 1 a b\nb = 0 a"), "a"), coming.verdict("a"))
        self.refused(Waits, coming.verdict, "b")
        self.refused(Waits, coming.verdict, "d")


class Whole(Base):
    def test_two_coming_books_by_turns(self):
        one, other = Coming(), Coming()
        one.tell("a", read_term("1 a"))
        self.assertEqual([], other.ready())
        self.refused(NoName, other.sign, "a", 0)
        other.tell("a", read_term("2 b"))
        one.tell("b", read_term("b"))
        self.assertEqual(("sign", 1), one.sign("a", 1))
        self.assertEqual(("waits", "b"), other.sign("a", 1))
        self.assertEqual((["a", "b"], []), (one.ready(), other.ready()))
        other.tell("b", read_term("3 b"))
        self.assertEqual((("free",), ("sign", 3)), (one.sign("b", 0), other.sign("b", 0)))
        self.assertEqual((("one", ((1, 0, 0),)), "one"), (one.verdict("a"), other.verdict("a")[0]))

    def test_any_order_tells_the_same(self):
        rng = random.Random(84)
        for _ in range(60):
            book = random_book(rng, rng.randrange(1, 7), rng.randrange(2, 10))
            mixed = list(book)
            rng.shuffle(mixed)
            one, other = Coming(), Coming()
            for (name, term), (second, following) in zip(book, mixed):
                one.tell(name, term)
                other.tell(second, following)
            self.assertEqual(one.ready(), other.ready())
            for name, _ in book:
                self.assertEqual(one.verdict(name), other.verdict(name))
                for n in range(12):
                    self.assertEqual(one.sign(name, n), other.sign(name, n))

    def test_nothing_is_changed_and_by_their_names(self):
        term = read_term("zip 1 a b")
        before = copy.deepcopy(term)
        coming = Coming()
        self.assertIs(None, coming.tell(name="a", term=term))
        self.assertIs(None, coming.tell(term=read_term("0 a"), name="b"))
        self.assertEqual(("sign", 0), coming.sign(name="a", n=1))
        self.assertEqual(("sign", 0), coming.sign(n=1, name="a"))
        self.assertEqual(verdict(read_book("a = zip 1 a b\nb = 0 a"), "a"), coming.verdict(name="a"))
        self.assertEqual(before, term)
        self.assertEqual(term_of(read_book("a = zip 1 a b\nb = 0 a"), "a"), term)
