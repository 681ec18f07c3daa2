"""The rows that stand at every 2 ** k-th place of a name's row, told as states [11].

A state is a pair (word, tail): the word's signs, written as figures, stand ahead of the tail's row. A tail is
("zip", at, skip), the row of the zip of that number without as many signs as are skipped; ("turn", word), the word
again and again; or ("free",), where each sign may be any.
"""

from zipspring.terms import parts_of


def numbered(book):
    """The book's terms, those of its names first, then those within others, whose numbers stand in their places."""
    numbers = {name: number for number, (name, term) in enumerate(book)}
    waiting = [term for name, term in book]
    told = []
    while len(told) < len(waiting):
        term = waiting[len(told)]
        if term[0] == "row":
            told.append(("row", numbers[term[1]]))
            continue
        parts = parts_of(term)
        first = len(waiting)
        waiting.extend(parts)
        told.append(term[:len(term) - len(parts)] + tuple(range(first, len(waiting))))
    return told


def gone_round(word, begin):
    """The state of a word whose signs from a place on come again and again, or never come."""
    if begin < len(word):
        return (word[:begin], ("turn", word[begin:]))
    return (word, ("free",))


def settled(terms, at, skip):
    """The state of a term's row without its first signs: the way is gone as far as a zip, or once round."""
    word = ""
    # Of each term met, how many signs stood ahead of it when it was met last, and how many were skipped then.
    last = {}
    while terms[at][0] != "zip":
        many, skipped = last.get(at, (0, skip + 1))
        # Here the row behind the first many signs is the word's other signs ahead of that same row, without as many
        # of its first signs as are skipped more than then. (Where fewer are skipped, the next round skips fewer still.)
        if skip >= skipped:
            return gone_round(word, many + skip - skipped)
        last[at] = (len(word), skip)
        if terms[at][0] == "behind":
            skip += 1
        elif terms[at][0] == "sign" and skip > 0:
            skip -= 1
        elif terms[at][0] == "sign":
            word += str(terms[at][1])
        at = terms[at][-1]
    return (word, ("zip", at, skip))


def tail_halves(terms, tail):
    """The states of what stands at a tail's even places, and of what stands at its odd ones."""
    if tail[0] == "free":
        return (("", tail), ("", tail))
    if tail[0] == "turn":
        # Of a word of odd length, twice around is one round of both halves.
        word = tail[1] * (1 + len(tail[1]) % 2)
        return (("", ("turn", word[0::2])), ("", ("turn", word[1::2])))
    one, other = terms[tail[1]][1:]
    skip = tail[2] // 2
    if tail[2] % 2 == 0:
        return (settled(terms, one, skip), settled(terms, other, skip))
    return (settled(terms, other, skip), settled(terms, one, skip + 1))


def halves(terms, state):
    """The states of what stands at a state's even places, and of what stands at its odd ones."""
    word, tail = state
    even, odd = tail_halves(terms, tail)
    # Behind a word of odd length the tail's even places are odd ones.
    if len(word) % 2 == 1:
        even, odd = odd, even
    return ((word[0::2] + even[0], even[1]), (word[1::2] + odd[0], odd[1]))


def all_states(terms, at):
    """All states that are met from a term's own, which stands first, and of each the numbers of both its halves."""
    first = settled(terms, at, 0)
    states = [first]
    numbers = {first: 0}
    steps = []
    while len(steps) < len(states):
        both = halves(terms, states[len(steps)])
        for half in both:
            if half not in numbers:
                numbers[half] = len(states)
                states.append(half)
        steps.append((numbers[both[0]], numbers[both[1]]))
    return states, steps


def first_sign(states, steps, at):
    """The sign at a state's place 0, or None where it is free."""
    met = set()
    # Place 0 is place 0 of the even half, too; where a state is met again, it hangs on nothing but itself.
    while at not in met:
        met.add(at)
        word, tail = states[at]
        if word != "":
            return int(word[0])
        if tail[0] == "turn":
            return int(tail[1][0])
        at = steps[at][0]
    return None
