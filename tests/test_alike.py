"""Whether rows are alike, and pairings [3, 13]."""

import copy
import random
import unittest

from tests.plain import plain_parting, plainly_pairing, row
from tests.things import MORSE, chain, mixed, random_machine
from zipspring.alike import alike, shows_alike
from zipspring.joining import ahead, zipped
from zipspring.least import least
from zipspring.machines import sign_at

DOUBLE = ((0, 2, 3), (1, 3, 0), (0, 0, 1), (1, 1, 2))


def ring(many):
    """A machine of that many states, all of one sign, each leading to the next one only."""
    return tuple((6, (number + 1) % many, (number + 1) % many) for number in range(many))


class Alike(unittest.TestCase):
    def alike(self, one, other):
        told = alike(one, other)
        self.assertEqual(2, len(told))
        self.assertEqual("alike", told[0])
        self.assertIs(list, told[1].__class__)
        for pair in told[1]:
            self.assertIs(tuple, pair.__class__)
            self.assertEqual([int, int], [number.__class__ for number in pair])
        self.assertTrue(plainly_pairing(one, other, set(told[1])))
        self.assertIs(True, shows_alike(one, other, told[1]))

    def unlike(self, one, other, place):
        self.assertEqual(("unlike", place), alike(one, other))
        self.assertEqual(("unlike", place), alike(other, one))

    def test_a_machine_and_itself(self):
        for machine in (((0, 0, 0),), MORSE, DOUBLE, chain(60), chain(500)):
            self.alike(machine, machine)

    def test_doubled_and_mixed(self):
        self.alike(MORSE, DOUBLE)
        self.alike(DOUBLE, MORSE)
        rng = random.Random(25)
        for _ in range(60):
            machine = random_machine(rng, rng.randrange(1, 40), rng.randrange(1, 4))
            double = mixed(rng, machine, rng.randrange(60))
            self.alike(machine, double)
            self.alike(double, mixed(rng, machine, 10))
            self.alike(least(machine), double)
        self.alike(chain(250), mixed(rng, chain(250), 250))
        self.alike(mixed(rng, chain(400), 100), mixed(rng, chain(400), 100))

    def test_a_pairing_of_very_many(self):
        self.alike(ring(31), ring(32))
        one, other = ring(499), ring(500)
        told = alike(one, other)
        self.assertEqual("alike", told[0])
        self.assertEqual(499 * 500, len(set(told[1])))
        self.assertTrue(plainly_pairing(one, other, set(told[1])))

    def test_rows_that_part_at_0(self):
        self.unlike(((0, 0, 0),), ((1, 0, 0),), 0)
        self.unlike(MORSE, ((1, 0, 1), (0, 1, 0)), 0)
        self.unlike(ahead(3, MORSE), ahead(4, MORSE), 0)

    def test_rows_that_part_at_a_small_place(self):
        self.unlike(MORSE, ((0, 0, 0),), 1)
        self.unlike(MORSE, ((0, 0, 1), (1, 1, 1)), 3)
        for many in range(2, 9):
            self.unlike(chain(many), chain(many + 1), 2 ** (many - 1) - 1)

    def test_the_least_of_several_places(self):
        zeros = ((0, 0, 0),)
        ones = ((1, 0, 0),)
        for one_at in range(40):
            # The one's row is 0 but at that place, and at some greater ones.
            told = ones
            for place in range(one_at):
                told = ahead(0, told)
            self.unlike(told, zeros, one_at)
        self.unlike(zipped(chain(4), chain(3)), zeros, 7)
        self.unlike(zipped(chain(3), chain(4)), zeros, 6)

    def test_the_least_of_places_that_are_as_many_steps_off(self):
        # Places 2 and 3 are come to by as many steps: 2 by the even one ahead of the odd one, 3 by two odd ones.
        self.unlike(((0, 1, 2), (0, 3, 4), (0, 3, 4), (0, 3, 3), (1, 4, 4)), ((0, 0, 0),), 2)
        self.unlike(((0, 1, 2), (0, 3, 3), (0, 3, 4), (0, 3, 3), (1, 4, 4)), ((0, 0, 0),), 3)
        # Places 5 and 6 have three figures by twos: 101 and 110. 5 is less, though its first step is the odd one.
        five_six = ((0, 1, 2), (0, 3, 4), (0, 4, 3), (0, 3, 3), (0, 3, 5), (1, 5, 5))
        self.assertEqual([0, 0, 0, 0, 0, 1, 1, 0], row(five_six, 8))
        self.unlike(five_six, ((0, 0, 0),), 5)

    def test_a_place_above_2_to_the_60th(self):
        self.unlike(chain(62), chain(63), 2 ** 61 - 1)
        self.unlike(chain(70), chain(100), 2 ** 69 - 1)
        self.unlike(mixed(random.Random(26), chain(70), 400), chain(71), 2 ** 69 - 1)
        self.unlike(chain(499), chain(500), 2 ** 498 - 1)
        self.unlike(chain(500), ((0, 0, 0),), 2 ** 499 - 1)
        # By turns evens first, so that the place has other figures than ones.
        one = tuple((0, k + 1, k + 1) if k % 2 == 0 else (0, 80, k + 1) for k in range(79)) + ((1, 79, 79), (0, 80, 80))
        self.assertEqual(plain_parting(one, ((0, 0, 0),)), alike(one, ((0, 0, 0),))[1])
        self.assertGreater(alike(one, ((0, 0, 0),))[1], 2 ** 60)

    def test_against_the_plain_way(self):
        rng = random.Random(27)
        far = 0
        for _ in range(300):
            one = random_machine(rng, rng.randrange(1, 14), 2)
            other = mixed(rng, one, rng.randrange(6))
            at = rng.randrange(len(other))
            changed = other[:at] + ((other[at][0], other[at][1], rng.randrange(len(other))),) + other[at + 1:]
            place = plain_parting(one, changed)
            if place is None:
                self.alike(one, changed)
            else:
                self.unlike(one, changed, place)
                far += place > 8
        self.assertGreater(far, 30)

    def test_random_ones(self):
        rng = random.Random(28)
        for _ in range(200):
            one, other = random_machine(rng, rng.randrange(1, 8), 2), random_machine(rng, rng.randrange(1, 8), 2)
            place = plain_parting(one, other)
            if place is None:
                self.alike(one, other)
            else:
                self.unlike(one, other, place)
                self.assertEqual([sign_at(one, n) for n in range(place)], [sign_at(other, n) for n in range(place)])
                self.assertNotEqual(sign_at(one, place), sign_at(other, place))

    def test_alike_just_where_least_machines_are_the_same(self):
        rng = random.Random(29)
        for _ in range(300):
            one, other = random_machine(rng, 3, 2), random_machine(rng, 3, 2)
            self.assertEqual(least(one) == least(other), alike(one, other)[0] == "alike")

    def test_a_new_list_each_time(self):
        one = alike(MORSE, DOUBLE)
        other = alike(MORSE, DOUBLE)
        self.assertIsNot(one[1], other[1])
        other[1].clear()
        self.assertIs(True, shows_alike(MORSE, DOUBLE, one[1]))
        self.assertIs(True, shows_alike(MORSE, DOUBLE, alike(MORSE, DOUBLE)[1]))

    def test_nothing_is_changed_and_by_their_names(self):
        one, other = copy.deepcopy(MORSE), copy.deepcopy(((0, 0, 1), (1, 1, 1)))
        self.assertEqual(("unlike", 3), alike(one=one, other=other))
        self.assertEqual(("unlike", 3), alike(other=one, one=other))
        self.assertEqual((MORSE, ((0, 0, 1), (1, 1, 1))), (one, other))


class ShowsAlike(unittest.TestCase):
    PAIRING = [(0, 0), (0, 2), (1, 3), (1, 1)]

    def yes(self, pairs, one=MORSE, other=DOUBLE):
        with self.subTest(repr(pairs)[:80]):
            self.assertIs(True, shows_alike(one, other, pairs))

    def no(self, pairs, one=MORSE, other=DOUBLE):
        with self.subTest(repr(pairs)[:80]):
            self.assertIs(False, shows_alike(one, other, pairs))

    def test_a_pairing(self):
        self.yes(self.PAIRING)
        self.yes(self.PAIRING[::-1])
        self.yes([(0, 0)], ((3, 0, 0),), ((3, 0, 0),))
        self.yes([(0, 0), (1, 1)], MORSE, MORSE)
        self.yes([(number, number) for number in range(500)], chain(500), chain(500))

    def test_the_list_without_pairs(self):
        self.no([])
        self.no([], ((3, 0, 0),), ((3, 0, 0),))

    def test_without_the_first_pair(self):
        self.no([(1, 1)], ((3, 1, 1), (3, 1, 1)), ((3, 1, 1), (3, 1, 1)))
        self.yes([(1, 1), (0, 0)], ((3, 1, 1), (3, 1, 1)), ((3, 1, 1), (3, 1, 1)))
        self.no(self.PAIRING[1:])

    def test_a_pair_left_out(self):
        for at in range(4):
            self.no(self.PAIRING[:at] + self.PAIRING[at + 1:])
        pairs = [(number, number) for number in range(500)]
        for at in (0, 1, 250, 499):
            self.no(pairs[:at] + pairs[at + 1:], chain(500), chain(500))

    def test_the_even_pair_or_the_odd_pair_left_out(self):
        machine = ((3, 1, 0), (3, 1, 1))
        self.no([(0, 0)], machine, machine)
        self.yes([(0, 0), (1, 1)], machine, machine)
        machine = ((3, 0, 1), (3, 1, 1))
        self.no([(0, 0)], machine, machine)
        self.yes([(0, 0), (1, 1)], machine, machine)

    def test_a_pair_twice(self):
        self.yes(self.PAIRING * 2)
        self.yes(self.PAIRING + [(0, 0)])
        self.yes([(0, 0)] * 3, ((3, 0, 0),), ((3, 0, 0),))
        self.no((self.PAIRING[:3]) * 2)

    def test_pairs_of_unlike_signs(self):
        self.no([(0, 0)], ((3, 0, 0),), ((4, 0, 0),))
        self.no(self.PAIRING + [(0, 1)])
        self.no(self.PAIRING + [(0, 1), (0, 3), (1, 0), (1, 2)])
        self.no([(0, 1)] + self.PAIRING)
        self.no([(p, q) for p in (0, 1) for q in (0, 1, 2, 3)])

    def test_pairs_that_are_not_met_but_fit(self):
        # State 1 is never met from state 0, but has the row of the other's state 1.
        one, other = ((3, 0, 0), (5, 1, 0)), ((3, 0, 0), (5, 1, 0))
        self.yes([(0, 0)], one, other)
        self.yes([(0, 0), (1, 1)], one, other)
        self.no([(0, 0), (1, 0)], one, other)
        self.no([(0, 0), (0, 1)], one, other)

    def test_numbers_of_no_state(self):
        for number in (2, 3, 4, 10 ** 59, 10 ** 60 - 1):
            self.no(self.PAIRING + [(number, 0)])
            self.no([(number, 0)] + self.PAIRING)
            self.no([(number, number)] + self.PAIRING)
        for number in (4, 5, 10 ** 59, 10 ** 60 - 1):
            self.no(self.PAIRING + [(0, number)])
            self.no([(1, number)] + self.PAIRING)
        self.no([(0, 0), (1, 0)], ((3, 0, 0),), ((3, 0, 0),))
        self.no([(0, 0), (0, 1)], ((3, 0, 0),), ((3, 0, 0),))
        # Counted from the end these would be states for Python.
        self.no([(0, 0), (-1, -1)], ((3, 0, 0),), ((3, 0, 0),))

    def test_the_wrong_way_round(self):
        self.no([(q, p) for p, q in self.PAIRING])
        self.yes([(q, p) for p, q in self.PAIRING], DOUBLE, MORSE)

    def test_rows_that_are_unlike_have_no_pairing(self):
        one, other = MORSE, ((0, 0, 1), (1, 1, 1))
        pairs = [(p, q) for p in (0, 1) for q in (0, 1)]
        for many in range(16):
            self.no([pair for at, pair in enumerate(pairs) if many >> at & 1], one, other)

    def test_against_the_words_of_the_document(self):
        rng = random.Random(30)
        answers = {True: 0, False: 0}
        for _ in range(3000):
            one = random_machine(rng, rng.randrange(1, 4), 2)
            other = mixed(rng, one, rng.randrange(2))
            pairs = [(p, q) for p in range(len(one) + 1) for q in range(len(other) + 1) if rng.randrange(4)]
            if rng.randrange(3):
                pairs = [(p, q) for p, q in pairs if p < len(one) and q < len(other) and one[p][0] == other[q][0]]
            wanted = plainly_pairing(one, other, pairs)
            answers[wanted] += 1
            self.assertIs(wanted, shows_alike(one, other, pairs))
        self.assertGreater(min(answers.values()), 300)

    def test_nothing_is_changed_and_by_their_names(self):
        one, other, pairs = copy.deepcopy((MORSE, DOUBLE, self.PAIRING + [(0, 0)]))
        self.assertIs(True, shows_alike(one=one, other=other, pairs=pairs))
        self.assertIs(False, shows_alike(pairs=pairs, one=other, other=one))
        self.assertEqual((MORSE, DOUBLE, self.PAIRING + [(0, 0)]), (one, other, pairs))
