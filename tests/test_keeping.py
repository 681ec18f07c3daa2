"""Whether rows keep the equations [3, 5, 12]."""

import copy
import random
import unittest

from tests.things import MORSE, chain, changed, mixed, random_book, random_machine, ring, turning
from zipspring.books import term_of
from zipspring.errors import TooBig
from zipspring.keeping import kept
from zipspring.least import kernel_many
from zipspring.machines import sign_at
from zipspring.reads import read_book
from zipspring.verdicts import verdict
from zipspring.walks import hangs

EXAMPLE = read_book("a = zip 1 a b\nb = 0 a")
ZEROS = ((0, 0, 0),)
ONES = ((1, 0, 0),)
# 500 unlike rows stand in it; with a sign ahead there are more.
GREAT = turning("12" + "0" * 23)


def told_machines(book):
    """The machines that verdict tells, or None where a name has more than one row."""
    verdicts = [verdict(book, name) for name, _ in book]
    if all(told[0] == "one" for told in verdicts):
        return tuple(told[1] for told in verdicts)
    return None


def term_sign(term, n, known):
    """Sign n of a term's row, by the machines of the names."""
    thing = hangs(term, n)
    return thing[1] if thing[0] == "sign" else sign_at(known[thing[1]], thing[2])


def plainly_kept(book, machines, places):
    """Point 12 word by word, as far as the places tell, from the least one on."""
    known = {name: machine for (name, _), machine in zip(book, machines)}
    for name, term in book:
        for n in places:
            if sign_at(known[name], n) != term_sign(term, n, known):
                return ("break", name, n)
    return ("keep",)


def places_from(term, name, n):
    """The places at which the term hangs on sign n of the name."""
    if term[0] == "row":
        return [n] if term[1] == name else []
    if term[0] == "sign":
        return [place + 1 for place in places_from(term[2], name, n)]
    if term[0] == "behind":
        return [place - 1 for place in places_from(term[1], name, n) if place > 0]
    even = [2 * place for place in places_from(term[1], name, n)]
    return even + [2 * place + 1 for place in places_from(term[2], name, n)]


class Keeping(unittest.TestCase):
    def too_big(self, book, machines):
        with self.assertRaises(TooBig) as caught:
            kept(book, machines)
        self.assertIs(TooBig, caught.exception.__class__)

    def test_the_book_without_equations(self):
        self.assertEqual(("keep",), kept((), ()))

    def test_the_machines_that_verdict_tells(self):
        machines = told_machines(EXAMPLE)
        self.assertEqual(("keep",), kept(EXAMPLE, machines))
        # Told by other machines of the same rows.
        rng = random.Random(40)
        self.assertEqual(("keep",), kept(EXAMPLE, tuple(mixed(rng, machine, 20) for machine in machines)))
        self.assertEqual(("break", "a", 0), kept(EXAMPLE, machines[::-1]))
        self.assertEqual(("break", "a", 1), kept(EXAMPLE, (machines[0], machines[0])))

    def test_ordinary(self):
        book = read_book("a = 0 a")
        self.assertEqual(("keep",), kept(book, (ZEROS,)))
        self.assertEqual(("break", "a", 0), kept(book, (ONES,)))
        self.assertEqual(("break", "a", 2), kept(book, (changed(ZEROS, 2, 1),)))
        self.assertEqual(("break", "a", 1), kept(book, (MORSE,)))
        self.assertEqual(("break", "a", 0), kept(read_book("a = behind a"), (MORSE,)))
        self.assertEqual(("keep",), kept(read_book("a = zip a b\nb = zip b a"), (MORSE, ((1, 0, 1), (0, 1, 0)))))
        self.assertEqual(("break", "a", 1), kept(read_book("a = zip a b\nb = zip b a"), (MORSE, MORSE)))
        self.assertEqual(("break", "b", 1), kept(read_book("a = a\nb = zip b a"), (ONES, ZEROS)))

    def test_any_machines_for_a_free_name(self):
        rng = random.Random(41)
        book = read_book("a = a\nb = zip b c\nc = 4 c")
        other = read_book("a = b\nb = a")
        for many in range(1, 10):
            machine = random_machine(rng, many)
            self.assertEqual(("keep",), kept(book[:1], (machine,)))
            self.assertEqual(("keep",), kept(other, (machine, machine)))
            self.assertEqual(("keep",), kept(other, (machine, mixed(rng, machine, 7))))
        fours = ((4, 0, 0),)
        for sign in range(10):
            self.assertEqual(("keep",), kept(book, (MORSE, changed(fours, 0, sign), fours)))
        self.assertEqual(("break", "b", 1), kept(book, (MORSE, ((4, 0, 1), (7, 1, 1)), fours)))

    def test_names_whose_terms_are_other_names_alone(self):
        book = read_book("a = b\nb = c\nc = d\nd = a")
        self.assertEqual(("keep",), kept(book, (MORSE,) * 4))
        for far in (0, 1, 2, 77, 10 ** 30):
            odd = changed(MORSE, far, 5)
            self.assertEqual(("break", "a", far), kept(book, (odd, MORSE, MORSE, MORSE)))
            self.assertEqual(("break", "a", far), kept(book, (MORSE, odd, MORSE, MORSE)))
            self.assertEqual(("break", "b", far), kept(book, (MORSE, MORSE, odd, MORSE)))
            self.assertEqual(("break", "c", far), kept(book, (MORSE, MORSE, MORSE, odd)))
            self.assertEqual(("keep",), kept(book, (odd,) * 4))

    def test_the_first_name_in_the_book_s_order(self):
        # Sorted or by their places they would go another way.
        book = read_book("z = 1 2 z\nc = 5 c\nm = 7 m")
        rows = told_machines(book)
        self.assertEqual(("keep",), kept(book, rows))
        self.assertEqual(("break", "c", 0), kept(book, (rows[0], ZEROS, ZEROS)))
        self.assertEqual(("break", "m", 0), kept(book, (rows[0], rows[1], ZEROS)))
        self.assertEqual(("break", "z", 90), kept(book, (changed(rows[0], 90, 3), ZEROS, ZEROS)))
        self.assertEqual(("break", "c", 0), kept(book[::-1], (rows[2], ZEROS, ZEROS)))

    def test_another_sign_near(self):
        rng = random.Random(42)
        met = {"keep": 0, "break": 0}
        for _ in range(400):
            book = random_book(rng, rng.randrange(1, 6), rng.randrange(2, 12))
            machines = told_machines(book)
            if machines is None:
                continue
            self.assertEqual(("keep",), kept(book, machines))
            at, place = rng.randrange(len(book)), rng.randrange(40)
            odd = changed(machines[at], place, rng.randrange(10))
            handed = machines[:at] + (odd,) + machines[at + 1:]
            told = kept(book, handed)
            self.assertEqual(plainly_kept(book, handed, range(1300)), told, (book, handed))
            met[told[0]] += 1
        self.assertGreater(met["keep"], 3)
        self.assertGreater(met["break"], 50)

    def test_another_sign_far_out(self):
        rng = random.Random(43)
        many = 0
        for _ in range(400):
            book = random_book(rng, rng.randrange(1, 6), rng.randrange(2, 12))
            machines = told_machines(book)
            if machines is None:
                continue
            at, place = rng.randrange(len(book)), rng.randrange(10 ** 20, 10 ** 40)
            odd = changed(machines[at], place, (sign_at(machines[at], place) + 1) % 10)
            handed = machines[:at] + (odd,) + machines[at + 1:]
            name = book[at][0]
            places = {n for _, term in book for n in places_from(term, name, place)}
            told = kept(book, handed)
            self.assertEqual(plainly_kept(book, handed, sorted(places | {place})), told, (book, place))
            self.assertEqual("break", told[0])
            many += 1
        self.assertGreater(many, 50)

    def test_random_machines(self):
        rng = random.Random(44)
        for _ in range(300):
            book = random_book(rng, rng.randrange(1, 6), rng.randrange(2, 12))
            machines = tuple(random_machine(rng, rng.randrange(1, 6), 2) for _ in book)
            self.assertEqual(plainly_kept(book, machines, range(3000)), kept(book, machines), (book, machines))

    def test_ten_within_and_twenty_in_all(self):
        book = read_book("a = zip 1 2 3 4 5 6 7 8 a 8 7 6 5 4 zip a 3 behind a")
        machines = told_machines(book)
        self.assertEqual(("keep",), kept(book, machines))
        self.assertEqual(("break", "a", 0), kept(book, (ZEROS,)))
        eight = read_book("\n".join(ring("123456789" * 8, "abcdefgh")))
        machines = told_machines(eight)
        self.assertEqual(("keep",), kept(eight, machines))
        self.assertEqual(("break", "g", 9 + 70), kept(eight, machines[:7] + (changed(machines[7], 70, 0),)))

    def test_too_big(self):
        self.assertEqual(500, len(GREAT))
        self.assertEqual(500, kernel_many(GREAT))
        book = read_book("a = 7 b\nb = b")
        self.too_big(book, (GREAT, GREAT))
        self.too_big(book[::-1], (GREAT, GREAT))
        self.assertEqual(("keep",), kept(read_book("a = b\nb = a"), (GREAT, GREAT)))
        self.assertEqual(("keep",), kept(read_book("a = b\nb = a"), (chain(500), chain(500))))
        self.too_big(read_book("a = zip b c\nb = b\nc = c"), (ZEROS, chain(500), ZEROS))
        # By the rows that are handed in: others are small.
        self.assertEqual(("break", "a", 0), kept(book, (GREAT, ONES)))

    def test_too_big_by_a_term_within_others(self):
        for text in ("behind 7 b", "1 behind behind 7 b", "zip a behind 7 b", "zip behind 7 b a"):
            self.too_big(read_book(f"a = {text}\nb = b"), (ZEROS, GREAT))
        # The whole term's row is just that of b, so that nothing would be broken.
        self.too_big(read_book("a = behind 7 b\nb = b"), (GREAT, GREAT))
        # With the first sign of the row itself taken off and put ahead again it is no greater on the way.
        rest = turning("2" + "0" * 23 + "1")
        self.assertEqual(("keep",), kept(read_book("a = 1 b\nb = behind a"), (GREAT, rest)))

    def test_too_big_goes_ahead_of_a_break(self):
        self.too_big(read_book("a = 1 a\nb = behind 7 c\nc = c"), (ZEROS, GREAT, GREAT))
        self.too_big(read_book("b = behind 7 c\nc = c\na = 1 a"), (ZEROS, GREAT, ZEROS))
        self.too_big(read_book("a = 1 a\nb = b\nc = zip 7 b a"), (ZEROS, GREAT, ONES))

    def test_exactly_500_and_501(self):
        book = read_book("a = 5 b\nb = b")
        self.assertEqual(("break", "a", 0), kept(book, (ZEROS, chain(250))))
        self.too_big(book, (ZEROS, chain(251)))
        book = read_book("a = behind 5 b\nb = b")
        self.assertEqual(("keep",), kept(book, (chain(250), chain(250))))
        self.too_big(book, (chain(251), chain(251)))
        # The states that are handed in do not count where the row has fewer.
        double = mixed(random.Random(45), chain(250), 250)
        self.assertEqual(("keep",), kept(book, (double, double)))

    def test_nothing_is_changed_and_by_their_names(self):
        machines = told_machines(EXAMPLE)
        book, handed = copy.deepcopy(EXAMPLE), copy.deepcopy(machines)
        self.assertEqual(("keep",), kept(book=book, machines=handed))
        self.assertEqual(("break", "a", 0), kept(machines=handed[::-1], book=book))
        self.assertEqual((EXAMPLE, machines), (book, handed))
        self.assertEqual(term_of(EXAMPLE, "b"), term_of(book, "b"))
