"""Whether the rows of two machines are alike, and pairings that show it [13]."""

from zipspring.wholes import is_below


def next_pair(one, other, pair, step):
    """The pair of the states that both states of a pair have at that step: 1 is even, 2 is odd."""
    return (one[pair[0]][step], other[pair[1]][step])


def same_sign(one, other, pair):
    return one[pair[0]][0] == other[pair[1]][0]


def place_come_to(came, pair):
    """The place at which two rows have the signs of a pair, by the steps on which the pair was come to."""
    # The last step is the place's greatest figure by twos, the first one its least.
    place = 0
    while came[pair] is not None:
        pair, step = came[pair]
        place = 2 * place + step - 1
    return place


def alike(one, other):
    start = (0, 0)
    if not same_sign(one, other, start):
        return ("unlike", 0)
    # Each pair met, with the pair and the step that it was first come to by.
    came = {start: None}
    # The pairs that are first met after so many steps, by the places that lead to them, the least one first: so the
    # first pair of unlike signs has the least place.
    level = [start]
    while level:
        following = []
        for step in (1, 2):
            for pair in level:
                further = next_pair(one, other, pair, step)
                if further in came:
                    continue
                came[further] = (pair, step)
                if not same_sign(one, other, further):
                    return ("unlike", place_come_to(came, further))
                following.append(further)
        level = following
    return ("alike", list(came))


def fits(one, other, pairs, pair):
    """Whether a pair may stand among the pairs, the keys of a dict, where they are a pairing."""
    if not is_below(pair[0], len(one)) or not is_below(pair[1], len(other)):
        return False
    if not same_sign(one, other, pair):
        return False
    return next_pair(one, other, pair, 1) in pairs and next_pair(one, other, pair, 2) in pairs


def shows_alike(one, other, pairs):
    known = {pair: True for pair in pairs}
    return (0, 0) in known and all([fits(one, other, known, pair) for pair in known])
