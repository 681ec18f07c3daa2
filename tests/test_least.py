"""Least machines [14]."""

import copy
import random
import unittest

from tests.plain import plain_least, row
from tests.things import MORSE, chain, mixed, random_machine
from zipspring.least import kernel_many, least
from zipspring.machines import is_machine, sign_at


class Least(unittest.TestCase):
    def test_one_state(self):
        for sign in range(10):
            self.assertEqual(((sign, 0, 0),), least(((sign, 0, 0),)))

    def test_already_least(self):
        for machine in (MORSE, ((1, 0, 1), (1, 1, 2), (0, 2, 2)), chain(2), chain(3), chain(100), chain(500)):
            self.assertEqual(machine, least(machine))

    def test_doubled_states(self):
        self.assertEqual(((4, 0, 0),), least(((4, 1, 1), (4, 0, 0))))
        self.assertEqual(((4, 0, 0),), least(((4, 1, 2), (4, 2, 0), (4, 0, 1))))
        self.assertEqual(((4, 0, 0),), least(((4, 499, 3),) * 500))
        self.assertEqual(MORSE, least(((0, 2, 3), (1, 3, 0), (0, 0, 1), (1, 1, 2))))
        self.assertEqual(MORSE, least(((0, 3, 1), (1, 2, 3), (1, 1, 0), (0, 0, 2))))

    def test_states_that_are_never_met(self):
        self.assertEqual(((4, 0, 0),), least(((4, 0, 0), (5, 1, 0))))
        self.assertEqual(((4, 0, 0),), least(((4, 0, 0), (4, 0, 2), (6, 2, 1))))
        self.assertEqual(MORSE, least(((0, 0, 3), (7, 1, 2), (0, 2, 1), (1, 3, 0))))
        self.assertEqual(((1, 0, 0),), least(((1, 0, 0),) + tuple((0, k, k - 1) for k in range(1, 500))))

    def test_unlike_rows_of_the_same_signs_stay_apart(self):
        # All signs but those at the last state are alike.
        self.assertEqual(3, len(least(((0, 1, 1), (0, 1, 2), (1, 2, 2)))))
        self.assertEqual(((0, 1, 0), (0, 1, 2), (1, 2, 2)), least(((0, 1, 0), (0, 1, 2), (1, 2, 2))))

    def test_the_even_state_is_ahead_of_the_odd_one(self):
        self.assertEqual(((0, 1, 2), (0, 1, 1), (1, 2, 2)), least(((0, 2, 1), (1, 1, 1), (0, 2, 2))))
        self.assertEqual(((0, 1, 2), (0, 1, 1), (1, 2, 2)), least(((0, 1, 2), (0, 1, 1), (1, 2, 2))))

    def test_states_in_the_order_of_the_numbers(self):
        # State 0 leads to 6 and 5; 6 to 6 and 4; 5 to 3 and 2; so all of 6 and 5 stand ahead of what they lead to.
        machine = ((0, 6, 5), (9, 1, 1), (2, 2, 2), (1, 3, 3), (4, 4, 4), (1, 3, 2), (0, 6, 4))
        wanted = ((0, 1, 2), (0, 1, 3), (1, 4, 5), (4, 3, 3), (1, 4, 4), (2, 5, 5))
        self.assertEqual(wanted, least(machine))
        # The other state is met by a state that is itself met by an odd step.
        machine = ((0, 0, 2), (5, 1, 1), (1, 3, 1), (1, 3, 0))
        self.assertEqual(((0, 0, 1), (1, 2, 3), (1, 2, 0), (5, 3, 3)), least(machine))

    def test_all_machines_of_up_to_three_states_by_their_rows(self):
        """Each least machine has the row, and as many states as there are unlike rows among those met from state 0."""
        for machine in small_machines():
            told = least(machine)
            self.assertTrue(is_machine(told))
            self.assertEqual(row(machine, 64), row(told, 64))
            self.assertEqual(len(kernel(machine)), len(told), machine)
            self.assertEqual(plain_least(machine), told, machine)

    def test_doubled_and_mixed(self):
        rng = random.Random(8)
        for _ in range(150):
            machine = plain_least(random_machine(rng, rng.randrange(1, 30), rng.randrange(1, 4)))
            self.assertEqual(machine, least(machine))
            self.assertEqual(machine, least(mixed(rng, machine, rng.randrange(40))))

    def test_against_the_plain_way(self):
        rng = random.Random(9)
        for many in list(range(1, 60)) + [120, 250, 499, 500]:
            for many_signs in (1, 2, 10):
                machine = random_machine(rng, many, many_signs)
                told = least(machine)
                self.assertEqual(plain_least(machine), told)
                self.assertEqual(told, least(told))
                for n in list(range(20)) + [rng.randrange(10 ** 60) for _ in range(5)]:
                    self.assertEqual(sign_at(machine, n), sign_at(told, n))

    def test_some_hundred_states_mixed(self):
        rng = random.Random(10)
        for many in (100, 249, 250, 400):
            self.assertEqual(chain(many), least(mixed(rng, chain(many), 500 - many)))

    def test_kinds_of_values(self):
        told = least(((4, 1, 1), (4, 0, 0)))
        self.assertIs(tuple, told.__class__)
        self.assertEqual([tuple], [state.__class__ for state in told])
        self.assertTrue(is_machine(told))

    def test_nothing_is_changed_and_by_its_name(self):
        machine = ((0, 2, 3), (1, 3, 0), (0, 0, 1), (1, 1, 2))
        before = copy.deepcopy(machine)
        self.assertEqual(MORSE, least(machine=machine))
        self.assertEqual(MORSE, least(machine))
        self.assertEqual(before, machine)


def small_machines():
    """All machines of one to three states with the signs 0 and 1."""
    found = []
    for many in (1, 2, 3):
        states = [(sign, even, odd) for sign in (0, 1) for even in range(many) for odd in range(many)]
        things = [()]
        for _ in range(many):
            things = [thing + (state,) for thing in things for state in states]
        found += [thing for thing in things if is_machine(thing)]
    return found


def kernel(machine):
    """The unlike rows, by their first eight signs, at every 2 ** k-th place from one below 2 ** k on."""
    return {tuple(sign_at(machine, 2 ** k * n + start) for n in range(8)) for k in range(4) for start in range(2 ** k)}


class KernelMany(unittest.TestCase):
    def test_ordinary(self):
        self.assertEqual(1, kernel_many(((3, 0, 0),)))
        self.assertEqual(1, kernel_many(((4, 1, 2), (4, 2, 0), (4, 0, 1))))
        self.assertEqual(2, kernel_many(MORSE))
        self.assertEqual(2, kernel_many(((0, 0, 3), (7, 1, 2), (0, 2, 1), (1, 3, 0))))
        for many in (2, 3, 77, 500):
            self.assertEqual(many, kernel_many(chain(many)))

    def test_as_many_as_unlike_rows(self):
        for machine in small_machines()[::7]:
            self.assertEqual(len(kernel(machine)), kernel_many(machine))

    def test_doubled_and_mixed(self):
        self.assertEqual(200, kernel_many(mixed(random.Random(11), chain(200), 300)))

    def test_nothing_is_changed_and_by_its_name(self):
        machine = ((0, 2, 3), (1, 3, 0), (0, 0, 1), (1, 1, 2))
        before = copy.deepcopy(machine)
        self.assertEqual(2, kernel_many(machine=machine))
        self.assertIs(int, kernel_many(machine).__class__)
        self.assertEqual(before, machine)
