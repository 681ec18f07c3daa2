"""Books [4], and what [2] says of what is handed in and told."""

import copy
import itertools
import unittest

from tests.things import A, Asking, B, great_things, in_all, no_texts, within
from zipspring.books import is_book, term_of
from zipspring.errors import NoName

EIGHT = ("a", "b", "c", "d", "e", "f", "g", "abcdefgh")


def ring(names):
    """A book in which each name hangs on the one behind it, the last on the first."""
    following = names[1:] + names[:1]
    pairs = enumerate(zip(names, following))
    return tuple((name, ("sign", number, ("row", other))) for number, (name, other) in pairs)


class Books(Asking):
    ask = staticmethod(is_book)

    def test_ordinary(self):
        self.yes((("a", A),))
        self.yes((("a", ("zip", ("sign", 1, A), B)), ("b", ("sign", 0, A))))
        self.yes((("b", ("sign", 0, A)), ("a", ("zip", ("sign", 1, A), B))))
        self.yes((("row", ("row", "sign")), ("sign", ("row", "row"))))

    def test_no_equations(self):
        self.yes(())
        for thing in ([], "", None, False, 0):
            self.no(thing)

    def test_eight_and_nine(self):
        for many in range(1, 9):
            self.yes(ring(EIGHT[:many]))
        self.no(ring(EIGHT + ("i",)))
        self.no(ring(EIGHT + ("i", "j")))
        self.no(ring(tuple(chr(97 + k) for k in range(26))))

    def test_nine_of_which_each_hangs_on_itself(self):
        pairs = [(name, ("row", name)) for name in EIGHT + ("i",)]
        self.yes(tuple(pairs[:8]))
        self.no(tuple(pairs))

    def test_a_name_twice(self):
        self.no((("a", A), ("a", A)))
        self.no((("a", A), ("a", ("sign", 1, A))))
        self.no((("a", A), ("b", B), ("a", B)))
        self.no(ring(EIGHT[:7]) + (("a", A),))
        self.no((("b", A), ("a", A), ("b", A)))

    def test_a_name_without_equation(self):
        self.no((("a", B),))
        self.no((("a", A), ("b", ("row", "c"))))
        self.no((("a", ("zip", A, B)),))
        self.no((("a", ("zip", B, A)),))
        self.no((("a", ("behind", ("sign", 1, ("zip", A, ("behind", B))))),))
        self.no((("a", A), ("ab", ("row", "aa"))))
        self.no(ring(EIGHT)[:7])
        self.no(ring(EIGHT)[1:])

    def test_a_name_that_is_none(self):
        for thing in ("", "zip", "behind", "A", "a1", "a ", "a\n", "abcdefghi", None, 0, True, ("a",), ["a"], A, []):
            self.no(((thing, A),))
            self.no((("a", A), (thing, A)))
            self.no(((thing, A), ("a", A)))
            self.no((("a", ("row", thing)),))
            self.no(((thing, ("row", thing)),))

    def test_a_term_that_is_none(self):
        for thing in no_texts() + ["a", "row a", list(A), ("sign", 10, A), ("sign", True, A), ("behind", [A])]:
            self.no((("a", thing),))
            self.no((("a", A), ("b", thing)))
            self.no((("b", thing), ("a", A)))

    def test_limits_of_terms(self):
        self.yes((("a", within(10)),))
        self.no((("a", within(11)),))
        self.yes((("a", in_all(20)),))
        self.no((("a", in_all(21)),))
        self.yes(tuple((name, in_all(20)) for name in EIGHT))
        self.no(tuple((name, in_all(20)) for name in EIGHT[:7]) + (("h", in_all(21)),))

    def test_a_list_for_the_tuple_or_for_a_pair(self):
        self.no([("a", A)])
        self.no((["a", A],))
        self.no([["a", A]])
        self.no((("a", A), ["b", B]))
        self.no((["a", A], ("b", B)))
        self.no(list(ring(EIGHT)))
        self.no({"a": A})

    def test_a_pair_longer_or_shorter(self):
        for pair in ((), ("a",), (A,), ("a", A, A), ("a", A, None), ("a", A, "b", B), ("a", "b", A)):
            self.no((pair,))
            self.no((("a", A), pair))
            self.no((pair, ("a", A)))

    def test_no_pairs(self):
        for thing in ("", "a", "ab", "aa", "row", 0, True, None, 10 ** 59, A, [A]):
            self.no((thing,))
            self.no((("a", A), thing))
        self.no(("a", A))
        self.no((A,))
        self.no((("a", ("a", A)),))
        self.no(((("a", A),),))

    def test_no_books_at_all(self):
        for thing in no_texts():
            with self.subTest(repr(thing)):
                self.assertIs(thing == () and thing.__class__ is tuple, is_book(thing))
        for thing in ("", "a", "a = a", A, ("sign", 1, A), ("zip", A, B)):
            self.no(thing)

    def test_great_things(self):
        for thing in great_things():
            self.no(thing)
            self.no((thing,))
            self.no((("a", thing),))
            self.no(((thing, A),))

    def test_any_order(self):
        for pairs in itertools.permutations(ring(("a", "b", "c", "d"))):
            self.yes(pairs)

    def test_nothing_is_changed(self):
        things = no_texts() + great_things()
        things += [[("a", A)], (["a", A],), (("a", ["row", "a"]),), (("a", A), (["b"], B)), (("a", A), ("a", [1, [2]]))]
        things += [(), ring(EIGHT), ring(EIGHT + ("i",)), ((("a", A),), ["a"])]
        for thing in things:
            before = copy.deepcopy(thing)
            is_book(thing)
            self.assertEqual(before, thing)

    def test_by_its_name(self):
        self.assertIs(True, is_book(thing=(("a", A),)))
        self.assertIs(False, is_book(thing=[("a", A)]))


class TermOf(unittest.TestCase):
    def test_a_book_of_one(self):
        self.assertEqual(A, term_of((("a", A),), "a"))
        self.assertEqual(("sign", 4, ("row", "long")), term_of((("long", ("sign", 4, ("row", "long"))),), "long"))

    def test_a_book_of_eight_in_whatever_order(self):
        book = ring(EIGHT)
        known = dict(book)
        for first in range(8):
            for step in (1, 3, 5, 7):
                for number in range(8):
                    name = EIGHT[(first + step * number) % 8]
                    self.assertEqual(known[name], term_of(book, name))

    def test_twice_the_same(self):
        book = ring(EIGHT)
        for name in EIGHT + EIGHT[::-1]:
            self.assertEqual(term_of(book, name), term_of(book, name))

    def test_two_books_by_turns(self):
        one = (("a", ("sign", 1, A)), ("b", ("sign", 2, A)))
        other = (("b", ("sign", 3, A)), ("a", ("sign", 4, B)))
        for _ in range(2):
            self.assertEqual(("sign", 1, A), term_of(one, "a"))
            self.assertEqual(("sign", 4, B), term_of(other, "a"))
            self.assertEqual(("sign", 2, A), term_of(one, "b"))
            self.assertEqual(("sign", 3, A), term_of(other, "b"))

    def test_names_of_which_one_begins_the_other(self):
        book = (("ab", ("sign", 1, A)), ("a", ("sign", 2, A)), ("abc", ("sign", 3, A)))
        self.assertEqual(("sign", 2, A), term_of(book, "a"))
        self.assertEqual(("sign", 1, A), term_of(book, "ab"))
        self.assertEqual(("sign", 3, A), term_of(book, "abc"))

    def test_another_name(self):
        for book in ((), (("a", A),), ring(EIGHT)):
            with self.assertRaises(NoName):
                term_of(book, "other")

    def test_the_book_is_not_changed(self):
        book = ring(EIGHT)
        before = copy.deepcopy(book)
        for name in EIGHT:
            term_of(book, name)
        self.assertEqual(before, book)

    def test_by_their_names(self):
        book = ring(EIGHT)
        self.assertEqual(("sign", 2, ("row", "d")), term_of(book=book, name="c"))
        self.assertEqual(("sign", 2, ("row", "d")), term_of(name="c", book=book))
        self.assertEqual(("sign", 2, ("row", "d")), term_of(book, name="c"))
