"""Machines put together [10]."""

import copy
import random
import unittest

from tests.plain import plain_least, row
from tests.things import MORSE, chain, mixed, random_machine
from zipspring.errors import TooBig
from zipspring.joining import ahead, behind, evens, odds, zipped
from zipspring.least import least
from zipspring.machines import is_machine, sign_at

ZEROS = ((0, 0, 0),)
ONES = ((1, 0, 0),)


def looped_chain(many):
    """A chain with one state more: the last one's state even, which leads back to the first one."""
    return chain(many)[:-1] + ((1, many, many - 1), (1, many, 0))


def ladder(many, last_odd):
    """That many states, each the state even of the one ahead of it, and behind the last one a state of another sign."""
    steps = tuple((0, number + 1, 0) for number in range(many - 1))
    return steps + ((0, many - 1, many), (1, many, last_odd))


class Joining(unittest.TestCase):
    """A base for the tests of each way to put machines together."""

    def signs(self, told, wanted):
        """The told machine is a least machine, and has at each place the sign that is wanted there."""
        self.assertTrue(is_machine(told))
        self.assertEqual(plain_least(told), told)
        rng = random.Random(len(told))
        far = [10 ** 49, 10 ** 50 - 1, 2 ** 165, 2 ** 165 - 1] + [rng.randrange(10 ** 49, 10 ** 50) for _ in range(6)]
        for n in list(range(40)) + far:
            self.assertEqual(wanted(n), sign_at(told, n), n)

    def too_big(self, put, *things):
        with self.assertRaises(TooBig) as caught:
            put(*things)
        self.assertIs(TooBig, caught.exception.__class__)

    def machines(self, seed):
        """Machines of one and of many states, least ones and others."""
        rng = random.Random(seed)
        found = [ZEROS, ONES, MORSE, chain(2), chain(40), ((4, 1, 1), (4, 0, 0)), ((4, 499, 3),) * 500]
        found += [random_machine(rng, many, many_signs) for many in range(1, 12) for many_signs in (1, 2, 10)]
        found += [mixed(rng, random_machine(rng, 20, 3), 30), random_machine(rng, 200, 2)]
        return found


class Ahead(Joining):
    def told(self, sign, machine):
        self.signs(ahead(sign, machine), lambda n: sign if n == 0 else sign_at(machine, n - 1))

    def test_ordinary(self):
        self.assertEqual(((1, 0, 1), (0, 1, 1)), ahead(1, ZEROS))
        self.assertEqual([7, 0, 1, 1, 0, 1, 0, 0, 1, 1], row(ahead(7, MORSE), 10))

    def test_the_same_sign(self):
        self.assertEqual(ZEROS, ahead(0, ZEROS))
        self.assertEqual(((4, 0, 0),), ahead(4, ((4, 1, 1), (4, 0, 0))))
        self.assertEqual([0, 0, 1, 1, 0, 1, 0, 0], row(ahead(0, MORSE), 8))

    def test_place_by_place(self):
        for number, machine in enumerate(self.machines(12)):
            self.told(number % 10, machine)
            self.told(machine[0][0], machine)
        for sign in range(10):
            self.told(sign, MORSE)

    def test_taken_off_again(self):
        for number, machine in enumerate(self.machines(13)):
            self.assertEqual(least(machine), behind(ahead(number % 10, machine)))
            self.assertEqual(least(machine), ahead(machine[0][0], behind(machine)))

    def test_exactly_500_and_more(self):
        self.assertEqual(500, len(ahead(5, chain(250))))
        self.told(5, chain(250))
        self.too_big(ahead, 5, chain(251))
        self.too_big(ahead, 5, chain(500))
        self.assertEqual(499, len(ahead(5, looped_chain(249))))
        self.too_big(ahead, 5, looped_chain(250))

    def test_states_on_the_way_do_not_count(self):
        double = mixed(random.Random(14), chain(250), 250)
        self.assertEqual(500, len(double))
        self.assertEqual(ahead(5, chain(250)), ahead(5, double))
        self.assertEqual(((7, 0, 1), (4, 1, 1)), ahead(7, ((4, 499, 3),) * 500))
        # With its own first sign taken off and put ahead again it is as great as it can be.
        self.assertEqual(chain(500), ahead(0, behind(chain(500))))

    def test_nothing_is_changed_and_by_their_names(self):
        machine = copy.deepcopy(MORSE)
        self.assertEqual(ahead(7, MORSE), ahead(sign=7, machine=machine))
        self.assertEqual(ahead(7, MORSE), ahead(machine=machine, sign=7))
        self.assertEqual(MORSE, machine)


class Behind(Joining):
    def told(self, machine):
        self.signs(behind(machine), lambda n: sign_at(machine, n + 1))

    def test_ordinary(self):
        self.assertEqual(ZEROS, behind(ZEROS))
        self.assertEqual([1, 1, 0, 1, 0, 0, 1], row(behind(MORSE), 7))
        self.assertEqual(ZEROS, behind(((1, 0, 1), (0, 1, 1))))

    def test_place_by_place(self):
        for machine in self.machines(15):
            self.told(machine)

    def test_again_and_again(self):
        told = MORSE
        for many in range(1, 40):
            told = behind(told)
            self.signs(told, lambda n: sign_at(MORSE, n + many))

    def test_exactly_500_and_more(self):
        self.assertEqual(500, len(behind(chain(500))))
        self.told(chain(500))
        self.assertEqual(500, len(behind(ladder(250, 250))))
        self.told(ladder(250, 250))
        self.too_big(behind, ladder(251, 251))
        self.assertEqual(499, len(behind(ladder(249, 0))))
        self.too_big(behind, ladder(250, 0))
        self.too_big(behind, ladder(499, 0))

    def test_states_on_the_way_do_not_count(self):
        double = mixed(random.Random(16), ladder(249, 0), 250)
        self.assertEqual(500, len(double))
        self.assertEqual(behind(ladder(249, 0)), behind(double))
        self.assertEqual(((4, 0, 0),), behind(((4, 499, 3),) * 500))

    def test_nothing_is_changed_and_by_its_name(self):
        machine = copy.deepcopy(MORSE)
        self.assertEqual(behind(MORSE), behind(machine=machine))
        self.assertEqual(MORSE, machine)


class Zipped(Joining):
    def told(self, one, other):
        self.signs(zipped(one, other), lambda n: sign_at(one if n % 2 == 0 else other, n // 2))

    def test_ordinary(self):
        self.assertEqual(((0, 1, 2), (0, 1, 1), (1, 2, 2)), zipped(ZEROS, ONES))
        self.assertEqual(((1, 1, 2), (1, 1, 1), (0, 2, 2)), zipped(ONES, ZEROS))
        self.assertEqual(MORSE, zipped(MORSE, ((1, 0, 1), (0, 1, 0))))

    def test_place_by_place(self):
        ones, others = self.machines(17), self.machines(18)
        for one, other in zip(ones, others[::-1]):
            self.told(one, other)
            self.told(other, one)

    def test_the_same_machine_twice(self):
        self.assertEqual(ZEROS, zipped(ZEROS, ZEROS))
        self.assertEqual([0, 0, 1, 1, 1, 1, 0, 0], row(zipped(MORSE, MORSE), 8))
        for machine in self.machines(19):
            self.told(machine, machine)

    def test_evens_and_odds_of_it(self):
        ones, others = self.machines(20), self.machines(21)
        for one, other in zip(ones, others[::-1]):
            told = zipped(one, other)
            self.assertEqual(least(one), evens(told))
            self.assertEqual(least(other), odds(told))

    def test_exactly_500_and_more(self):
        self.assertEqual(500, len(zipped(chain(250), chain(249, 2, 3))))
        self.assertEqual(500, len(zipped(chain(249), chain(250, 2, 3))))
        self.told(chain(250), chain(249, 2, 3))
        self.too_big(zipped, chain(250), chain(250, 2, 3))
        self.too_big(zipped, chain(500), chain(500))
        self.too_big(zipped, chain(500), chain(500, 2, 3))
        self.too_big(zipped, chain(500), ZEROS)
        self.assertEqual(500, len(zipped(chain(499), chain(499))))
        self.assertEqual(500, len(zipped(chain(498), ZEROS)))
        self.assertEqual(500, len(zipped(ZEROS, chain(498))))
        self.too_big(zipped, ZEROS, chain(499))

    def test_states_on_the_way_do_not_count(self):
        self.assertEqual(chain(500), zipped(chain(500), chain(499)))
        rng = random.Random(22)
        one, other = mixed(rng, chain(250), 250), mixed(rng, chain(249, 2, 3), 251)
        self.assertEqual(zipped(chain(250), chain(249, 2, 3)), zipped(one, other))
        self.assertEqual(((4, 0, 0),), zipped(((4, 499, 3),) * 500, ((4, 7, 498),) * 500))

    def test_nothing_is_changed_and_by_their_names(self):
        one, other = copy.deepcopy(MORSE), copy.deepcopy(ONES)
        self.assertEqual(zipped(MORSE, ONES), zipped(one=one, other=other))
        self.assertEqual(zipped(MORSE, ONES), zipped(other=other, one=one))
        self.assertEqual((MORSE, ONES), (one, other))


class EvensAndOdds(Joining):
    def test_ordinary(self):
        self.assertEqual(MORSE, evens(MORSE))
        self.assertEqual(((1, 0, 1), (0, 1, 0)), odds(MORSE))
        self.assertEqual(((0, 0, 0),), evens(((0, 1, 2), (0, 1, 1), (1, 2, 2))))
        self.assertEqual(((1, 0, 0),), odds(((0, 1, 2), (0, 1, 1), (1, 2, 2))))

    def test_place_by_place(self):
        for machine in self.machines(23):
            self.signs(evens(machine), lambda n: sign_at(machine, 2 * n))
            self.signs(odds(machine), lambda n: sign_at(machine, 2 * n + 1))

    def test_put_together_again(self):
        for machine in self.machines(24):
            self.assertEqual(least(machine), zipped(evens(machine), odds(machine)))

    def test_500_states(self):
        self.assertEqual(chain(500), evens(chain(500)))
        self.assertEqual(chain(499), odds(chain(500)))
        self.assertEqual(chain(500), zipped(evens(chain(500)), odds(chain(500))))
        # The way there and back again, so that the told machine has all states once more.
        ring = tuple((number % 10, number, (number + 1) % 500) for number in range(499)) + ((7, 499, 0),)
        self.assertEqual(500, len(least(ring)))
        self.assertEqual(500, len(odds(ring)))
        self.signs(odds(ring), lambda n: sign_at(ring, 2 * n + 1))

    def test_nothing_is_changed_and_by_their_names(self):
        machine = copy.deepcopy(MORSE)
        self.assertEqual(evens(MORSE), evens(machine=machine))
        self.assertEqual(odds(MORSE), odds(machine=machine))
        self.assertEqual(MORSE, machine)
