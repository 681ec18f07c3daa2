"""Equations told back from a machine [3, 15]."""

import copy
import random
import unittest

from tests.plain import plain_least
from tests.things import MORSE, chain, random_machine
from zipspring.books import is_book
from zipspring.errors import TooBig
from zipspring.keeping import kept
from zipspring.reads import read_book
from zipspring.shows import show_book
from zipspring.telling import book_of
from zipspring.verdicts import verdict


def rotated(machine, first):
    """A machine that begins with that state: it and state 0 change places."""
    def place(state):
        return {0: first, first: 0}.get(state, state)

    return tuple((machine[place(k)][0], place(machine[place(k)][1]), place(machine[place(k)][2]))
                 for k in range(len(machine)))


class BookOf(unittest.TestCase):
    def too_big(self, machine):
        with self.assertRaises(TooBig) as caught:
            book_of(machine)
        self.assertIs(TooBig, caught.exception.__class__)

    def just_its_rows(self, machine):
        book = book_of(machine)
        self.assertIs(True, is_book(book))
        self.assertEqual(list("abcdefgh")[:len(machine)], [name for name, _ in book])
        for number, (name, _) in enumerate(book):
            self.assertEqual(("one", plain_least(rotated(machine, number))), verdict(book, name), machine)

    def test_as_written(self):
        wanted = (("a", ("sign", 7, ("behind", ("zip", ("row", "a"), ("row", "a"))))),)
        self.assertEqual(wanted, book_of(((7, 0, 0),)))
        wanted = (
            ("a", ("sign", 0, ("behind", ("zip", ("row", "a"), ("row", "b"))))),
            ("b", ("sign", 1, ("behind", ("zip", ("row", "b"), ("row", "a"))))),
        )
        self.assertEqual(wanted, book_of(MORSE))
        text = "a = 3 behind zip b c\nb = 3 behind zip a a\nc = 4 behind zip c b"
        self.assertEqual(text, show_book(book_of(((3, 1, 2), (3, 0, 0), (4, 2, 1)))))
        self.assertEqual(read_book(text), book_of(((3, 1, 2), (3, 0, 0), (4, 2, 1))))

    def test_one_to_eight_states(self):
        rng = random.Random(50)
        for many in range(1, 9):
            self.just_its_rows(chain(many))
            self.just_its_rows(chain(many, 5, 5))
            for many_signs in (1, 2, 3, 10):
                for _ in range(6):
                    self.just_its_rows(random_machine(rng, many, many_signs))

    def test_a_machine_s_rows_keep_its_book(self):
        rng = random.Random(51)
        for many in range(1, 9):
            machine = random_machine(rng, many)
            rows = tuple(rotated(machine, number) for number in range(many))
            self.assertEqual(("keep",), kept(book_of(machine), rows))

    def test_too_big(self):
        for many in (9, 10, 26, 27, 500):
            self.too_big(chain(many))
        # By the states it is handed in with, not by the least machine's.
        self.too_big(((4, 0, 0),) * 9)
        self.too_big(((4, 499, 3),) * 500)
        self.assertEqual(8, len(book_of(((4, 0, 0),) * 8)))

    def test_nothing_is_changed_and_by_its_name(self):
        machine = copy.deepcopy(MORSE)
        self.assertEqual(book_of(MORSE), book_of(machine=machine))
        self.assertEqual(MORSE, machine)
