"""Plain ways, slow or for small things only, to what the program tells of walks and machines."""

from zipspring.machines import sign_at


def plain_walk(book, name, n):
    """Point 7 word by word: at each call all calls ahead of it are looked at, and each zip since them."""
    way = []
    while True:
        if name not in dict(book):
            return ("waits", name)
        calls = [thing for thing in way if thing != "zip"] + [(name, n)]
        for at, thing in enumerate(way):
            if thing == (name, n):
                return ("free", calls)
            if thing != "zip" and thing[0] == name and thing[1] <= n and "zip" not in way[at:]:
                return ("free", calls)
        way.append((name, n))
        term = dict(book)[name]
        while term[0] != "row":
            if term[0] == "sign" and n == 0:
                return ("sign", term[1], calls)
            if term[0] == "sign":
                term, n = term[2], n - 1
            elif term[0] == "behind":
                term, n = term[1], n + 1
            else:
                way.append("zip")
                term, n = (term[1], n // 2) if n % 2 == 0 else (term[2], n // 2)
        name = term[1]


def row(machine, many):
    """The first signs of a machine's row."""
    return [sign_at(machine, n) for n in range(many)]


def plain_least(machine):
    """The least machine: states are told apart by signs, then by where they lead, again and again till nothing new."""
    kinds = [sign for sign, _, _ in machine]
    while True:
        seen = {}
        finer = [seen.setdefault((kinds[k], kinds[even], kinds[odd]), len(seen))
                 for k, (_, even, odd) in enumerate(machine)]
        if len(seen) == len(set(kinds)):
            break
        kinds = finer
    order = [0]
    for state in order:
        for step in (1, 2):
            if kinds[machine[state][step]] not in [kinds[other] for other in order]:
                order.append(machine[state][step])
    number = {kinds[state]: at for at, state in enumerate(order)}
    return tuple((machine[s][0], number[kinds[machine[s][1]]], number[kinds[machine[s][2]]]) for s in order)


def plain_parting(one, other):
    """The least place at which two machines' rows part, or None: found for all pairs of states at once."""
    pairs = [(p, q) for p in range(len(one)) for q in range(len(other))]
    place = {(p, q): 0 for p, q in pairs if one[p][0] != other[q][0]}
    changed = True
    while changed:
        changed = False
        for p, q in pairs:
            even, odd = place.get((one[p][1], other[q][1])), place.get((one[p][2], other[q][2]))
            found = ([2 * even] if even is not None else []) + ([2 * odd + 1] if odd is not None else [])
            if found and min(found) < place.get((p, q), min(found) + 1):
                place[p, q] = min(found)
                changed = True
    return place.get((0, 0))


def plainly_pairing(one, other, pairs):
    """Point 13 word by word."""
    if (0, 0) not in pairs:
        return False
    for p, q in pairs:
        if p >= len(one) or q >= len(other) or one[p][0] != other[q][0]:
            return False
        if (one[p][1], other[q][1]) not in pairs or (one[p][2], other[q][2]) not in pairs:
            return False
    return True
