"""Whether a row turns [17]."""

import copy
import random
import unittest

from tests.things import MORSE, chain, changed, mixed, random_machine, turning
from zipspring.errors import TooBig
from zipspring.joining import ahead, behind
from zipspring.machines import sign_at
from zipspring.turning import turns

ZEROS = ((0, 0, 0),)
# 500 unlike rows stand in it.
GREAT = turning("12" + "0" * 23)


def plainly_turns(machine, q, p, many):
    """Point 17 word by word, as far as the first places tell."""
    for n in range(q, many):
        if sign_at(machine, n) != sign_at(machine, n + p):
            return n
    return None


def begun(signs, machine):
    """The machine's row with the signs ahead of it."""
    for sign in signs[::-1]:
        machine = ahead(int(sign), machine)
    return machine


class Turns(unittest.TestCase):
    def too_big(self, machine, q, p):
        with self.assertRaises(TooBig) as caught:
            turns(machine, q, p)
        self.assertIs(TooBig, caught.exception.__class__)

    def test_from_0_on(self):
        self.assertIs(None, turns(ZEROS, 0, 1))
        self.assertIs(None, turns(ZEROS, 60, 60))
        for word in ("12", "123", "1123", "10010", "1234567"):
            for p in range(1, 22):
                wanted = None if p % len(word) == 0 else plainly_turns(turning(word), 0, p, 30)
                self.assertEqual(wanted, turns(turning(word), 0, p), (word, p))

    def test_from_a_later_place_on(self):
        machine = begun("45", turning("123"))
        self.assertEqual([0, 1, None, None], [turns(machine, q, 3) for q in range(4)])
        self.assertEqual([0, 1, None, None], [turns(machine, q, 6) for q in range(4)])
        self.assertEqual([0, 1, 2, 3], [turns(machine, q, 2) for q in range(4)])
        # With the sign ahead that would stand there anyway it turns one place earlier.
        machine = begun("453", turning("123"))
        self.assertEqual([0, 1, None, None, None], [turns(machine, q, 3) for q in range(5)])
        machine = begun("7" * 20, turning("12"))
        for q in range(25):
            wanted = 18 if q <= 18 else 19 if q == 19 else None
            self.assertEqual(wanted, turns(machine, q, 2), q)

    def test_the_least_place_near(self):
        self.assertEqual(0, turns(MORSE, 0, 1))
        self.assertEqual(2, turns(MORSE, 0, 3))
        self.assertEqual([0, 2, 2, 3, 4, 6], [turns(MORSE, q, 1) for q in range(6)])
        rng = random.Random(70)
        for _ in range(300):
            machine = random_machine(rng, rng.randrange(1, 6), 2)
            q, p = rng.randrange(8), rng.randrange(1, 8)
            self.assertEqual(plainly_turns(machine, q, p, 4000), turns(machine, q, p), (machine, q, p))

    def test_the_least_place_far_out(self):
        for place in (2 ** 20, 10 ** 20, 10 ** 59 + 7):
            for q, p in ((0, 1), (0, 60), (60, 1), (60, 60), (7, 12)):
                self.assertEqual(place - p, turns(changed(ZEROS, place, 1), q, p))
        machine = changed(turning("123"), 10 ** 20, 7)
        self.assertEqual(10 ** 20 - 3, turns(machine, 5, 3))
        self.assertEqual(10 ** 20 - 12, turns(machine, 5, 12))
        self.assertEqual(5, turns(machine, 5, 4))
        # Just there, and just behind it, where the changed sign is not looked at any more.
        machine = changed(turning("123"), 40, 7)
        self.assertEqual([37, 37, 40, 40, 40, None], [turns(machine, q, 3) for q in (36, 37, 38, 39, 40, 41)])

    def test_60_and_60(self):
        word = "123456789012345"
        self.assertIs(None, turns(turning(word), 60, 60))
        self.assertIs(None, turns(begun("98", turning(word)), 60, 60))
        self.assertEqual(60, turns(turning(word), 60, 59))
        self.assertEqual(60, turns(turning("1234567"), 60, 60))
        machine = changed(turning(word), 119, 0)
        self.assertEqual(119, turns(machine, 60, 60))
        self.assertEqual(119 - 45, turns(machine, 60, 45))
        machine = changed(turning(word), 59, 0)
        self.assertIs(None, turns(machine, 60, 60))
        self.assertEqual(59, turns(machine, 59, 60))

    def test_machines_with_more_states_than_are_needed(self):
        rng = random.Random(71)
        self.assertIs(None, turns(mixed(rng, turning("12345"), 400), 3, 5))
        self.assertEqual(2, turns(mixed(rng, MORSE, 498), 1, 1))

    def test_500_states(self):
        self.assertIs(None, turns(GREAT, 0, 25))
        self.assertIs(None, turns(GREAT, 60, 50))
        self.assertEqual(60, turns(GREAT, 60, 40))

    def test_too_big(self):
        # Without the first 14 signs there are 13 states more, without the first 13 or 15 there are 12 more.
        machine = chain(487)
        sizes = [len(machine)]
        for _ in range(15):
            machine = behind(machine)
            sizes.append(len(machine))
        self.assertEqual([499, 500, 499], sizes[13:])
        # The first place with 486 ones is the first one of another sign.
        for q, p in ((0, 14), (13, 1), (1, 13), (14, 1), (13, 2), (0, 15)):
            self.assertEqual(2 ** 486 - 1 - p, turns(chain(487), q, p))
        for q, p in ((0, 13), (12, 1), (1, 12), (6, 7)):
            self.assertEqual(2 ** 487 - 1 - p, turns(chain(488), q, p))
        for q, p in ((0, 14), (13, 1), (1, 13), (14, 1), (15, 1), (13, 2), (0, 15), (60, 60)):
            self.too_big(chain(488), q, p)

    def test_too_big_also_where_a_place_is_known_at_once(self):
        # Place 0 has an 8, which stands nowhere else: so it would not turn from 0 on.
        machine = changed(chain(480), 0, 8)
        self.assertEqual(0, turns(machine, 0, 1))
        self.too_big(machine, 0, 60)
        self.too_big(machine, 60, 1)

    def test_nothing_is_changed_and_by_their_names(self):
        machine = copy.deepcopy(MORSE)
        self.assertEqual(2, turns(machine=machine, q=1, p=1))
        self.assertEqual(2, turns(p=1, q=1, machine=machine))
        self.assertEqual(MORSE, machine)
