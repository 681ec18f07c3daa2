"""How often a sign stands, and where for the k-th time [16]."""

import copy
import math
import random
import unittest

from tests.things import MORSE, chain, changed, mixed, random_machine, turning
from zipspring.counting import how_often, place_of
from zipspring.machines import sign_at

ZEROS = ((0, 0, 0),)
END = 10 ** 18
THIRTY = 10 ** 30 - 1


def plainly_often(machine, sign, n, state=0, known=None):
    """How often, by the halves of the row: of n places (n + 1) // 2 are even and n // 2 are odd."""
    known = {} if known is None else known
    if n < 2:
        return n if machine[state][0] == sign else 0
    if (state, n) not in known:
        _, even, odd = machine[state]
        known[state, n] = (plainly_often(machine, sign, (n + 1) // 2, even, known)
                           + plainly_often(machine, sign, n // 2, odd, known))
    return known[state, n]


def machines(seed):
    rng = random.Random(seed)
    found = [ZEROS, MORSE, chain(2), chain(7), turning("123"), turning("10010"), ((4, 1, 1), (4, 0, 0))]
    found += [random_machine(rng, many, many_signs) for many in range(1, 9) for many_signs in (1, 2, 10)]
    return found


class HowOften(unittest.TestCase):
    def test_none_and_one(self):
        for machine in machines(60):
            for sign in range(10):
                self.assertEqual(0, how_often(machine, sign, 0))
                self.assertEqual(1 if machine[0][0] == sign else 0, how_often(machine, sign, 1))

    def test_small_ones(self):
        self.assertEqual([0, 0, 1, 2, 2, 3, 3, 3, 4], [how_often(MORSE, 1, n) for n in range(9)])
        for machine in machines(61):
            for sign in {*[state[0] for state in machine], 0, 9}:
                found = 0
                for n in range(150):
                    self.assertEqual(found, how_often(machine, sign, n), (machine, sign, n))
                    found += 1 if sign_at(machine, n) == sign else 0

    def test_thirty_figures(self):
        self.assertEqual(THIRTY, how_often(ZEROS, 0, THIRTY))
        self.assertEqual(0, how_often(ZEROS, 1, THIRTY))
        self.assertEqual(10 ** 29 // 2, how_often(MORSE, 1, 10 ** 29))
        self.assertEqual(10 ** 29 // 2, how_often(MORSE, 0, 10 ** 29))
        self.assertEqual(THIRTY - 1, how_often(chain(2), 1, THIRTY))
        self.assertEqual(1, how_often(chain(2), 0, THIRTY))
        self.assertEqual(THIRTY // 3, how_often(turning("123"), 3, THIRTY))
        rng = random.Random(62)
        for machine in machines(62):
            for n in (10 ** 29, THIRTY, 2 ** 99, 2 ** 99 - 1, 2 ** 99 + 1, rng.randrange(10 ** 29, 10 ** 30)):
                signs = sorted({state[0] for state in machine})
                self.assertEqual(n, sum(how_often(machine, sign, n) for sign in signs))
                for sign in signs:
                    told = how_often(machine, sign, n)
                    self.assertEqual(plainly_often(machine, sign, n), told)
                    there = 1 if sign_at(machine, n) == sign else 0
                    self.assertEqual(told + there, how_often(machine, sign, n + 1))

    def test_signs_that_never_stand_there(self):
        for machine in machines(63):
            for sign in set(range(10)) - {state[0] for state in machine}:
                for n in (0, 1, 77, 10 ** 18, THIRTY):
                    self.assertEqual(0, how_often(machine, sign, n))
        # A state that is never come to has the sign.
        self.assertEqual(0, how_often(((0, 0, 0), (7, 1, 1)), 7, THIRTY))

    def test_some_hundred_states(self):
        # Among 2 ** m places, as many have i ones as there are ways to choose i of m.
        for many, figures in ((40, 60), (60, 90), (300, 99), (500, 98)):
            few = sum(math.comb(figures, ones) for ones in range(many - 1))
            self.assertEqual(few, how_often(chain(many, 3, 4), 3, 2 ** figures))
            self.assertEqual(2 ** figures - few, how_often(chain(many, 3, 4), 4, 2 ** figures))
        rng = random.Random(64)
        for many in (100, 300, 500):
            machine = random_machine(rng, many, 4)
            for n in (1000, rng.randrange(10 ** 29, 10 ** 30)):
                self.assertEqual(plainly_often(machine, 2, n), how_often(machine, 2, n))
        double = mixed(rng, turning("12345"), 400)
        self.assertEqual(10 ** 30 // 5, how_often(double, 4, THIRTY))

    def test_a_sign_that_stands_once(self):
        for place in (0, 1, 6, 10 ** 18, 10 ** 29 + 12345):
            machine = changed(MORSE, place, 8)
            for n in (0, place, place + 1, THIRTY):
                self.assertEqual(1 if n > place else 0, how_often(machine, 8, n))

    def test_nothing_is_changed_and_by_their_names(self):
        machine = copy.deepcopy(MORSE)
        self.assertEqual(4, how_often(machine=machine, sign=1, n=8))
        self.assertEqual(4, how_often(n=8, sign=1, machine=machine))
        self.assertEqual(MORSE, machine)


class PlaceOf(unittest.TestCase):
    def test_small_ones(self):
        self.assertEqual([1, 2, 4, 7, 8], [place_of(MORSE, 1, k) for k in range(5)])
        self.assertEqual([0, 3, 5, 6, 9], [place_of(MORSE, 0, k) for k in range(5)])
        for machine in machines(65):
            for sign in sorted({state[0] for state in machine}):
                places = [n for n in range(300) if sign_at(machine, n) == sign]
                for k, place in enumerate(places[:40]):
                    self.assertEqual(place, place_of(machine, sign, k), (machine, sign, k))

    def test_against_how_often(self):
        rng = random.Random(66)
        for machine in machines(66) + [random_machine(rng, 300, 3), chain(30), mixed(rng, MORSE, 400)]:
            for sign in sorted({state[0] for state in machine}):
                many = how_often(machine, sign, END)
                for k in {0, many // 3, many // 2, many - 1} - {-1}:
                    if k < many:
                        place = place_of(machine, sign, k)
                        self.assertTrue(0 <= place < END)
                        self.assertEqual(sign, sign_at(machine, place))
                        self.assertEqual(k, how_often(machine, sign, place))
                for k in (many, many + 1, 10 ** 29, THIRTY):
                    self.assertIs(None, place_of(machine, sign, k))

    def test_a_sign_that_stands_once_far_out(self):
        for place in (0, 1, 2, 1000, 2 ** 59, 10 ** 17 + 3, END - 2, END - 1):
            machine = changed(MORSE, place, 8)
            self.assertEqual(place, place_of(machine, 8, 0))
            for k in (1, 2, 10 ** 18, THIRTY):
                self.assertIs(None, place_of(machine, 8, k))

    def test_from_10_to_the_18th_on(self):
        for place in (END, END + 1, 2 ** 60 - 1, 2 ** 60, 2 ** 61, THIRTY):
            machine = changed(MORSE, place, 8)
            self.assertIs(None, place_of(machine, 8, 0), place)
            self.assertIs(None, place_of(machine, 8, 1), place)
        both = changed(changed(MORSE, END - 1, 8), END, 8)
        self.assertEqual(END - 1, place_of(both, 8, 0))
        self.assertIs(None, place_of(both, 8, 1))

    def test_the_last_place_below_it(self):
        self.assertEqual(0, place_of(ZEROS, 0, 0))
        self.assertEqual(END - 2, place_of(ZEROS, 0, END - 2))
        self.assertEqual(END - 1, place_of(ZEROS, 0, END - 1))
        self.assertIs(None, place_of(ZEROS, 0, END))
        self.assertIs(None, place_of(ZEROS, 0, 2 ** 60 - 1))
        self.assertIs(None, place_of(ZEROS, 0, 2 ** 60))
        self.assertIs(None, place_of(ZEROS, 0, THIRTY))

    def test_signs_that_never_stand_there(self):
        for machine in machines(67):
            for sign in set(range(10)) - {state[0] for state in machine}:
                for k in (0, 1, END, THIRTY):
                    self.assertIs(None, place_of(machine, sign, k))
        self.assertIs(None, place_of(((0, 0, 0), (7, 1, 1)), 7, 0))

    def test_nothing_is_changed_and_by_their_names(self):
        machine = copy.deepcopy(MORSE)
        self.assertEqual(7, place_of(machine=machine, sign=1, k=3))
        self.assertEqual(7, place_of(k=3, sign=1, machine=machine))
        self.assertEqual(MORSE, machine)
