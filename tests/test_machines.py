"""Machines [9], and what [2] says of anything."""

import copy
import random
import unittest

from tests.things import MORSE, Asking, chain, great_things, nested, no_texts, random_machine
from zipspring.machines import is_machine, sign_at

# 1 at place 0 and at each power of two, else 0.
POWERS = ((1, 0, 1), (1, 1, 2), (0, 2, 2))
# Its states even are other states than they themselves.
TURNING = ((3, 1, 2), (3, 2, 0), (3, 0, 3), (8, 3, 1))


class Machines(Asking):
    ask = staticmethod(is_machine)

    def test_one_state(self):
        for sign in range(10):
            self.yes(((sign, 0, 0),))

    def test_several_states(self):
        for machine in (MORSE, POWERS, TURNING, ((0, 1, 1), (0, 0, 0)), ((5, 0, 1), (6, 1, 0))):
            self.yes(machine)

    def test_500_and_501_states(self):
        for many in (2, 10, 499, 500):
            self.yes(chain(many))
            self.yes(((4, 0, 0),) * many)
            self.yes(((4, many - 1, many - 1),) * many)
        for many in (501, 502, 750, 990):
            self.no(chain(many))
            self.no(((4, 0, 0),) * many)

    def test_none(self):
        self.no(())
        self.no([])

    def test_signs(self):
        for sign in (10, -1, 11, 10 ** 59, 10 ** 199, -(10 ** 199), True, False, None, "", "0", "7", (), (0,), [], [0]):
            self.no(((sign, 0, 0),))
            self.no(((0, 0, 1), (sign, 1, 1)))
            self.no(((sign, 0, 0), (sign, 0, 0)))

    def test_numbers_of_states(self):
        wrong = (1, 2, -1, -2, 10 ** 59, 10 ** 199, -(10 ** 199), True, False, None, "", "0", (), (0,), [], [0])
        for number in wrong:
            self.no(((0, number, 0),))
            self.no(((0, 0, number),))
            self.no(((0, number, number),))
        for number in wrong[1:]:
            self.no(((0, number, 0), (0, 0, 0)))
            self.no(((0, 0, 0), (0, 0, number)))
            self.no(((0, 1, 1), (0, number, 1)))
            self.no(((0, 1, number), (0, 1, 1)))

    def test_the_last_number_and_one_beyond(self):
        for many in (1, 2, 3, 100, 500):
            self.yes(((0, 0, 0),) * (many - 1) + ((0, many - 1, many - 1),))
            self.no(((0, 0, 0),) * (many - 1) + ((0, many, 0),))
            self.no(((0, 0, 0),) * (many - 1) + ((0, 0, many),))

    def test_a_list_for_a_tuple(self):
        self.no([(0, 0, 0)])
        self.no(([0, 0, 0],))
        self.no([[0, 0, 0]])
        self.no(list(MORSE))
        self.no((MORSE[0], list(MORSE[1])))
        self.no((list(MORSE[0]), MORSE[1]))
        self.no(tuple(list(state) for state in chain(500)))
        self.no({0: (0, 0, 0)})

    def test_a_state_longer_or_shorter(self):
        for state in ((), (0,), (0, 0), (0, 0, 0, 0), (0, 0, 0, None), ((0, 0, 0),), (0, (0, 0))):
            self.no((state,))
            self.no((state, (0, 0, 0)))
            self.no(((0, 0, 0), state))

    def test_no_states(self):
        for thing in ("", "000", "a", None, True, False, 0, 3, 10 ** 59, [0, 0, 0], "0 0 0"):
            self.no((thing,))
            self.no(((0, 0, 0), thing))
            self.no((thing, (0, 1, 1)))
        self.no((0, 0, 0))
        self.no((MORSE,))

    def test_unlike_signs_of_a_state_and_its_state_even(self):
        self.no(((0, 1, 0), (1, 1, 0)))
        self.no(((0, 0, 1), (1, 0, 1)))
        self.no(((9, 0, 1), (8, 1, 2), (9, 1, 0)))
        self.yes(((9, 0, 1), (8, 1, 2), (9, 0, 0)))
        self.no(chain(499)[:498] + ((1, 0, 0),))
        self.no(((2, 499, 0),) * 499 + ((3, 499, 499),))
        # The state odd may have any sign.
        for sign in range(10):
            self.yes(((0, 0, 1), (sign, 1, 0)))
        # A state that is never met counts, too.
        self.no(((0, 0, 0), (1, 0, 0)))
        self.yes(((0, 0, 0), (1, 1, 0)))

    def test_no_machines_at_all(self):
        for thing in no_texts() + ["", "a", "000", "((0, 0, 0),)"]:
            self.no(thing)

    def test_great_things(self):
        for thing in great_things() + [nested(29, lambda inner: ((0, 0, 0), inner)), ((0, 0, 0),) * 750]:
            self.no(thing)
            self.no((thing,))
            self.no(((thing, 0, 0),))
            self.no(((0, thing, 0),))
            self.no(((0, 0, thing),))

    def test_nothing_is_changed(self):
        for thing in no_texts() + great_things() + [MORSE, chain(500), [[0, 0, 0]], ([0, 0, 0],), ((0, [0], 0),)]:
            before = copy.deepcopy(thing)
            is_machine(thing)
            self.assertEqual(before, thing)

    def test_by_its_name(self):
        self.assertIs(True, is_machine(thing=MORSE))
        self.assertIs(False, is_machine(thing=[(0, 0, 0)]))


def plain_sign(machine, state, n):
    """Point 9 word by word."""
    sign, even, odd = machine[state]
    if n == 0:
        return sign
    return plain_sign(machine, even if n % 2 == 0 else odd, n // 2)


class SignAt(unittest.TestCase):
    def row(self, machine, many):
        return "".join(str(sign_at(machine, n)) for n in range(many))

    def test_one_state(self):
        for sign in range(10):
            for n in (0, 1, 2, 3, 1000, 10 ** 59, 10 ** 60 - 1):
                self.assertEqual(sign, sign_at(((sign, 0, 0),), n))

    def test_ones_of_a_place(self):
        self.assertEqual("0110100110010110", self.row(MORSE, 16))
        for n in (2 ** 199, 10 ** 59, 10 ** 59 + 1, 10 ** 60 - 1, 3 * 10 ** 59 + 12345):
            self.assertEqual(bin(n).count("1") % 2, sign_at(MORSE, n))

    def test_powers_of_two(self):
        self.assertTrue(is_machine(POWERS))
        self.assertEqual("11101000100000001000000000000000100", self.row(POWERS, 35))
        for k in (60, 100, 198):
            self.assertEqual(1, sign_at(POWERS, 2 ** k))
            self.assertEqual(0, sign_at(POWERS, 2 ** k + 1))
            self.assertEqual(0, sign_at(POWERS, 2 ** k - 1))
            self.assertEqual(0, sign_at(POWERS, 3 * 2 ** k))

    def test_states_even_that_are_others(self):
        # Place 3 is place 1 of state 2, so place 0 of state 3; place 4 is place 2 of state 1, so place 1 of state 2.
        self.assertEqual([3, 3, 3, 8, 8, 3, 3, 3], [sign_at(TURNING, n) for n in range(8)])

    def test_a_chain(self):
        for many in (2, 3, 10, 60, 199):
            machine = chain(many)
            first = 2 ** (many - 1) - 1
            for n in (0, 1, 2, first - 1, first, first + 1, 2 * first, 2 * first + 1, 2 * first + 2, 10 ** 59):
                self.assertEqual(int(bin(n).count("1") >= many - 1), sign_at(machine, n))

    def test_against_the_words_of_the_document(self):
        rng = random.Random(7)
        for _ in range(100):
            machine = random_machine(rng, rng.randrange(1, 12))
            self.assertTrue(is_machine(machine))
            for n in list(range(40)) + [rng.randrange(10 ** 60) for _ in range(10)]:
                self.assertEqual(plain_sign(machine, 0, n), sign_at(machine, n))

    def test_a_machine_of_500_states(self):
        machine = tuple((3, (7 * k + 1) % 500, (k + 1) % 500) for k in range(499)) + ((3, 0, 0),)
        self.assertTrue(is_machine(machine))
        self.assertEqual(3, sign_at(machine, 10 ** 60 - 1))
        self.assertEqual(1, sign_at(chain(500), 2 ** 499 - 1))

    def test_nothing_is_changed_and_by_their_names(self):
        machine = copy.deepcopy(TURNING)
        self.assertEqual(8, sign_at(machine=machine, n=3))
        self.assertEqual(8, sign_at(n=4, machine=machine))
        self.assertEqual(TURNING, machine)
