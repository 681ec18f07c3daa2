"""Names and terms [4], and what [2] says of what is handed in and told."""

import copy
import string
import unittest

from tests.things import A, Asking, B, great_things, in_all, nested, no_texts, within
from zipspring.terms import is_name, is_term, names_in


class Names(Asking):
    ask = staticmethod(is_name)

    def test_ordinary(self):
        for name in ("a", "z", "ab", "row", "sign", "morse", "abcdefgh", "ijklmnop", "qrstuvwx", "yz"):
            self.yes(name)
        for letter in string.ascii_lowercase:
            self.yes(letter)

    def test_lengths(self):
        for many in range(1, 9):
            self.yes("a" * many)
            self.yes("z" * many)
        for many in (0, 9, 10, 16, 4000):
            self.no("a" * many)

    def test_words_of_terms(self):
        self.no("zip")
        self.no("behind")
        near = ("zi", "ip", "zp", "zips", "azip", "ziip", "piz", "zipzip")
        for name in near + ("behin", "ehind", "behnd", "behinds", "abehind", "dniheb"):
            self.yes(name)
        for text in ("Zip", "ZIP", "zip ", " zip", "Behind", "behind ", "zipbehind"):
            self.no(text)

    def test_other_signs_at_each_place(self):
        signs = [chr(code) for code in range(32, 127) if chr(code) not in string.ascii_lowercase]
        for sign in signs + ["\n", "\t", "\x00", "\u00e9", "\u0430"]:
            for text in (sign, sign + "a", "a" + sign, "ab" + sign + "cd", "abcdefg" + sign):
                self.no(text)

    def test_no_texts(self):
        for thing in no_texts() + great_things() + [list("abc"), tuple("abc"), ["a"] * 8]:
            self.no(thing)

    def test_by_its_name(self):
        self.assertIs(True, is_name(thing="abc"))
        self.assertIs(False, is_name(thing="zip"))


class Terms(Asking):
    ask = staticmethod(is_term)

    def test_four_forms(self):
        self.yes(("row", "a"))
        self.yes(("sign", 1, ("row", "a")))
        self.yes(("behind", ("row", "a")))
        self.yes(("zip", ("row", "a"), ("row", "b")))

    def test_forms_within_each_other(self):
        forms = [A, ("sign", 3, A), ("behind", A), ("zip", A, B)]
        for one in forms:
            self.yes(("sign", 0, one))
            self.yes(("behind", one))
            for other in forms:
                self.yes(("zip", one, other))

    def test_signs(self):
        for sign in range(10):
            self.yes(("sign", sign, A))
        for sign in (10, 11, -1, -9, 10 ** 59, 10 ** 60 - 1, -(10 ** 59), 10 ** 199):
            self.no(("sign", sign, A))
        for thing in (True, False, None, "", "1", "9", (1,), [1], (), []):
            self.no(("sign", thing, A))
            self.no(("behind", ("sign", thing, A)))

    def test_names_that_are_none(self):
        for thing in ("", "zip", "behind", "A", "a1", "a ", " a", "a\n", "abcdefghi", None, 0, True, A, ("a",), ["a"]):
            self.no(("row", thing))
            self.no(("sign", 1, ("row", thing)))
            self.no(("zip", A, ("row", thing)))
            self.no(("zip", ("row", thing), A))

    def test_words_of_terms_are_names_beside_them(self):
        self.yes(("row", "row"))
        self.yes(("row", "sign"))
        self.yes(("row", "abcdefgh"))

    def test_wrong_first_word(self):
        for word in ("", "Row", "rows", "ro", "row ", "name", "sig", "SIGN", "ahead", "Behind", "zips", "even", "a"):
            for rest in (("a",), (A,), (1, A), (A, B), ()):
                self.no((word,) + rest)
        for word in (None, 0, 1, True, False, (), [], ("row",), ["row"], A):
            for rest in (("a",), (A,), (1, A), (A, B), ()):
                self.no((word,) + rest)

    def test_one_forms_word_with_anothers_rest(self):
        rests = {"row": ("a",), "sign": (1, A), "behind": (A,), "zip": (A, B)}
        for word in rests:
            for other in rests:
                if word == other:
                    self.yes((word,) + rests[other])
                else:
                    self.no((word,) + rests[other])

    def test_too_long_or_too_short(self):
        for term in (A, ("sign", 1, A), ("behind", A), ("zip", A, B)):
            for many in range(len(term)):
                self.no(term[:many])
            for more in ("a", 1, None, A, ()):
                self.no(term + (more,))
                self.no(("behind", term + (more,)))

    def test_lists_for_tuples(self):
        for term in (A, ("sign", 1, A), ("behind", A), ("zip", A, B)):
            self.no(list(term))
            self.no([term])
            self.no((term,))
            self.no(("behind", list(term)))
            self.no(("sign", 1, list(term)))
            self.no(("zip", list(term), A))
            self.no(("zip", A, list(term)))
            self.no(("behind", ("behind", ("zip", A, list(term)))))

    def test_no_terms_where_terms_must_stand(self):
        for thing in no_texts() + ["", "a", "row", "ab"]:
            self.no(("behind", thing))
            self.no(("sign", 1, thing))
            self.no(("zip", thing, A))
            self.no(("zip", A, thing))

    def test_ten_within_one_another(self):
        wraps = [
            lambda inner: ("behind", inner),
            lambda inner: ("sign", 7, inner),
            lambda inner: ("zip", inner, A),
            lambda inner: ("zip", A, inner),
        ]
        for wrap in wraps:
            for many in range(1, 11):
                self.yes(nested(many - 1, wrap))
            for many in range(11, 32):
                self.no(nested(many - 1, wrap))

    def test_ten_within_one_another_on_one_side_only(self):
        self.yes(("zip", within(9), A))
        self.no(("zip", within(10), A))
        self.yes(("zip", A, within(9)))
        self.no(("zip", A, within(10)))
        self.yes(("zip", ("zip", A, within(8)), A))
        self.no(("zip", ("zip", A, within(9)), A))

    def test_twenty_in_all(self):
        for many in range(1, 21):
            self.yes(in_all(many))
        for many in range(21, 60):
            self.no(in_all(many))
        for many in (100, 500, 1000):
            self.no(in_all(many))

    def test_twenty_in_all_and_ten_within_one_another(self):
        self.yes(("zip", within(9), within(9)))
        self.yes(("behind", ("zip", within(8), within(8))))
        # twenty in all, ten within one another
        self.yes(("zip", ("zip", within(8), within(8)), ("behind", A)))
        self.no(("zip", ("zip", within(8), within(8)), ("behind", ("behind", A))))
        self.no(("zip", within(9), ("zip", within(8), within(2))))

    def test_one_object_at_several_places_counts_at_each(self):
        nine = in_all(9)
        self.yes(("zip", nine, nine))
        self.yes(("behind", ("zip", nine, nine)))
        self.no(("behind", ("behind", ("zip", nine, nine))))
        ten = in_all(10)
        self.no(("zip", ten, ten))

    def test_no_terms_at_all(self):
        for thing in no_texts() + ["", "a", "row", "row a", "ab", "zip a b"]:
            self.no(thing)

    def test_great_things(self):
        for thing in great_things():
            self.no(thing)

    def test_against_the_words_of_the_document(self):
        """Each thing of one step from parts, right and wrong, is told as a plain reading tells it."""
        parts = [A, ("behind", B), [A], ("row", "Q"), "a", "zip", 3, True, 10, None, (), ("sign", 9, A)]
        words = ["row", "sign", "behind", "zip", "a", 0, None]
        things = [(word,) for word in words]
        things += [(word, one) for word in words for one in parts]
        things += [(word, one, other) for word in words for one in parts for other in parts]
        for thing in things:
            with self.subTest(repr(thing)):
                self.assertIs(plainly_a_term(thing), is_term(thing))

    def test_nothing_is_changed(self):
        things = no_texts() + great_things()
        things += [["behind", ["row", "a"]], ("zip", [A], ["a", [1]]), ("sign", [1], A), ("row", ["a", "b"])]
        for ask in (is_name, is_term):
            for thing in things:
                before = copy.deepcopy(thing)
                ask(thing)
                self.assertEqual(before, thing)

    def test_the_same_again(self):
        for _ in range(3):
            self.yes(in_all(20))
            self.no(in_all(21))

    def test_by_its_name(self):
        self.assertIs(True, is_term(thing=A))
        self.assertIs(False, is_term(thing=[A]))


def plainly_a_term(thing):
    """Point 4's words, for things too small to pass its limits."""
    if not isinstance(thing, tuple):
        return False
    if len(thing) == 2 and thing[0] == "row":
        return is_name(thing[1])
    if len(thing) == 2 and thing[0] == "behind":
        return plainly_a_term(thing[1])
    if len(thing) == 3 and thing[0] == "sign":
        return thing[1].__class__ is int and thing[1] in range(10) and plainly_a_term(thing[2])
    if len(thing) == 3 and thing[0] == "zip":
        return plainly_a_term(thing[1]) and plainly_a_term(thing[2])
    return False


class NamesIn(unittest.TestCase):
    def test_one(self):
        self.assertEqual(["a"], names_in(A))
        self.assertEqual(["row"], names_in(("row", "row")))
        self.assertEqual(["a"], names_in(("sign", 1, A)))
        self.assertEqual(["a"], names_in(("behind", A)))
        self.assertEqual(["a"], names_in(within(10)))

    def test_both_of_a_zip(self):
        self.assertEqual(["a", "b"], names_in(("zip", A, B)))
        self.assertEqual(["a", "b"], names_in(("zip", B, A)))

    def test_sorted_as_texts(self):
        term = ("row", "b")
        for name in ("z", "aa", "ab", "a", "ba", "zz", "abcdefgh", "y"):
            term = ("zip", ("row", name), term)
        self.assertEqual(["a", "aa", "ab", "abcdefgh", "b", "ba", "y", "z", "zz"], names_in(term))

    def test_each_once(self):
        self.assertEqual(["a"], names_in(("zip", A, A)))
        self.assertEqual(["a"], names_in(in_all(20)))
        twice = ("zip", ("sign", 1, ("zip", B, A)), ("behind", ("zip", A, B)))
        self.assertEqual(["a", "b"], names_in(twice))

    def test_a_new_list_each_time(self):
        term = ("zip", B, ("sign", 0, A))
        one = names_in(term)
        other = names_in(term)
        self.assertIs(list, one.__class__)
        self.assertIsNot(one, other)
        one.append("c")
        one[0] = "q"
        self.assertEqual(["a", "b"], other)
        other.clear()
        self.assertEqual(["a", "b"], names_in(term))

    def test_the_term_is_not_changed(self):
        term = ("zip", B, ("sign", 0, ("behind", A)))
        before = copy.deepcopy(term)
        names_in(term)
        self.assertEqual(before, term)

    def test_by_its_name(self):
        self.assertEqual(["a", "b"], names_in(term=("zip", B, A)))
