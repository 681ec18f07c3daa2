"""What the tests hand in: things that are none of what is asked for; terms, books and machines of a given size."""

import unittest

A = ("row", "a")
B = ("row", "b")
# Whether a place has an odd number of ones, by twos written.
MORSE = ((0, 0, 1), (1, 1, 0))


def within(many, inner=A):
    """A term of that many within one another: the inner one and behinds around it."""
    for _ in range(many - 1):
        inner = ("behind", inner)
    return inner


def in_all(many):
    """A term of that many in all, as flat as can be."""
    if many == 1:
        return A
    if many == 2:
        return ("behind", A)
    left = (many - 1) // 2
    return ("zip", in_all(left), in_all(many - 1 - left))


def nested(many, wrap, inner=A):
    """The inner one, wrapped that many times."""
    for _ in range(many):
        inner = wrap(inner)
    return inner


def no_texts():
    """Small things that are neither texts nor terms; of these only the empty tuple is a book."""
    return [
        None, True, False, 0, 1, 9, -1, 10 ** 59, 10 ** 199, -(10 ** 199),
        (), [], ((),), [[]], (None,), [None], ("a",), ["a"], ("a", "b"), ["a", "b"], (0, 1), [0, 1],
        (("a",),), [["a"]], ("row",), ["row", "a"], ("row", "zip"), ("row", ["a"]),
    ]


def great_things():
    """Thirty within one another, or some more, or up to three thousand in all."""
    wraps = [
        lambda inner: (inner,),
        lambda inner: [inner],
        lambda inner: (inner, "a"),
        lambda inner: ("row", inner),
        lambda inner: ("behind", inner),
        lambda inner: ["behind", inner],
        lambda inner: ("behind", [inner]),
        lambda inner: ("sign", 0, inner),
        lambda inner: ("sign", inner, A),
        lambda inner: ("zip", inner, A),
        lambda inner: ("zip", A, inner),
        lambda inner: ("a", inner),
        lambda inner: (("a", inner),),
    ]
    things = []
    for wrap in wraps:
        for inner in (A, (), [], None, "a", 10 ** 199):
            for many in (11, 14, 29):
                things.append(nested(many, wrap, inner))
    things.extend([(None,) * 2999, [0] * 2999, ("row",) * 2999, ("zip",) + (A,) * 990, ("behind",) * 2999])
    things.extend([(("a", A),) * 590, ("row", "a" * 2900), ("row",) + ("a",) * 2900, "a" * 4000, "zip " * 1000])
    things.extend([nested(9, lambda inner: ("zip", inner, inner)), nested(9, lambda inner: [inner, inner], None)])
    things.append(tuple(("a", within(10)) for _ in range(130)))
    return things


def random_term(rng, names, room=20, depth=10):
    """A term of the names, of at most room in all and depth within one another."""
    kind = rng.choice(("row", "sign", "behind", "zip"))
    if kind == "row" or depth == 1 or room == 1 or (kind == "zip" and room < 3):
        return ("row", rng.choice(names))
    if kind == "sign":
        return ("sign", rng.randrange(10), random_term(rng, names, room - 1, depth - 1))
    if kind == "behind":
        return ("behind", random_term(rng, names, room - 1, depth - 1))
    left = rng.randrange(1, room - 1)
    one = random_term(rng, names, left, depth - 1)
    return ("zip", one, random_term(rng, names, room - 1 - left, depth - 1))


def random_book(rng, many, room=8):
    """A book of that many equations."""
    names = [chr(97 + number) for number in range(many)]
    return tuple((name, random_term(rng, names, room)) for name in names)


def chain(many, few=0, enough=1):
    """A least machine of that many states, by how many ones the place has, written by twos: many - 1 are enough."""
    return tuple((few, number, number + 1) for number in range(many - 1)) + ((enough, many - 1, many - 1),)


def random_machine(rng, many, many_signs=3):
    """A machine of that many states."""
    signs = [rng.randrange(many_signs) for _ in range(many)]
    same = [[other for other in range(many) if signs[other] == sign] for sign in signs]
    return tuple((signs[k], rng.choice(same[k]), rng.randrange(many)) for k in range(many))


def mixed(rng, machine, more):
    """A machine of the same row with that many states more, each a double of another one, the numbers mixed."""
    originals = list(range(len(machine))) + [rng.randrange(len(machine)) for _ in range(more)]
    rest = originals[1:]
    rng.shuffle(rest)
    originals = [0] + rest
    doubles = {number: [at for at, other in enumerate(originals) if other == number] for number in originals}
    return tuple(
        (machine[number][0], rng.choice(doubles[machine[number][1]]), rng.choice(doubles[machine[number][2]]))
        for number in originals
    )


def ring(word, names):
    """The rows of equations, nine signs in one at most, by which the first name's row is the word again and again."""
    pieces = [word[at:at + 9] for at in range(0, len(word), 9)]
    pieces += [""] * (len(names) - len(pieces))
    return [" ".join([name, "=", *piece, other]) for name, piece, other in zip(names, pieces, names[1:] + names[0])]


def turning(word):
    """A machine for the word again and again: of a state is known at which sign it is, and by how many it goes on."""
    order = [(0, 1 % len(word))]
    for start, step in order:
        for further in ((start, 2 * step % len(word)), ((start + step) % len(word), 2 * step % len(word))):
            if further not in order:
                order.append(further)
    return tuple(
        (
            int(word[start]),
            order.index((start, 2 * step % len(word))),
            order.index(((start + step) % len(word), 2 * step % len(word))),
        )
        for start, step in order
    )


def free_at(place, names="abcdef"):
    """The rows of a book whose first name is free at that place alone: by zips, nine in one equation at most."""
    zips = [int(figure) for figure in bin(place)[:1:-1]]
    # Zeros by zips, so that walks from far out are short.
    rows = ["y = zip y z", "z = 0 zip z z"]
    for at, name in enumerate(names):
        inner = names[at + 1] if at + 1 < len(names) else "y"
        for odd in zips[9 * at:9 * at + 9][::-1]:
            inner = f"zip z {inner}" if odd else f"zip {inner} z"
        rows.append(f"{name} = {inner}")
    return rows


def changed(machine, place, sign):
    """A machine of the same row but for that sign at the place."""
    # The states that are told anew, each with the place of its row that is changed: they go first.
    anew = [(0, place)]
    for state, n in anew:
        further = (machine[state][1 + n % 2], n // 2)
        if further not in anew:
            anew.append(further)
    told = []
    for state, n in anew:
        steps = [further + len(anew) for further in machine[state][1:]]
        steps[n % 2] = anew.index((machine[state][1 + n % 2], n // 2))
        told.append((sign if n == 0 else machine[state][0], *steps))
    return tuple(told) + tuple((first, even + len(anew), odd + len(anew)) for first, even, odd in machine)


class Asking(unittest.TestCase):
    """A base for tests of a function that tells True or False of a thing; each class below sets its own."""

    ask = None

    def yes(self, thing):
        with self.subTest(repr(thing)[:80]):
            self.assertIs(True, self.ask(thing))

    def no(self, thing):
        with self.subTest(repr(thing)[:80]):
            self.assertIs(False, self.ask(thing))
