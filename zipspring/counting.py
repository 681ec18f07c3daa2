"""How often a sign stands among the first places, and where it stands for the k-th time [16]."""

END_OF_PLACES = 10 ** 18


def arrivals(machine, many):
    """For each number of figures up to that many: of each state, how many places of so many figures lead there.

    Figures are figures by twos here, zeros ahead too, and they lead from state 0 on, the last one first.
    """
    level = [0] * len(machine)
    level[0] = 1
    levels = [level]
    for figures in range(many):
        following = [0] * len(machine)
        for count, (sign, even, odd) in zip(level, machine):
            following[even] += count
            following[odd] += count
        level = following
        levels.append(level)
    return levels


def showing(machine, sign):
    """Of each state whether its row has the sign at place 0."""
    return [state[0] == sign for state in machine]


def showing_further(machine, shown, figure):
    """What is shown of each state at a place, told for the place that has one figure more behind its own ones."""
    return [shown[state[1 + figure]] for state in machine]


def total(counts, shown):
    return sum([count for count, there in zip(counts, shown) if there])


def how_often(machine, sign, n):
    many = n.bit_length()
    levels = arrivals(machine, many)
    shown = showing(machine, sign)
    found = 0
    # The first n places are blocks, one for each 1 among n's figures: the figures ahead of it are n's own ones, there
    # is a 0 in its place, and those behind it are any.
    for behind in reversed(range(many)):
        figure = (n >> behind) & 1
        if figure == 1:
            found += total(levels[behind], showing_further(machine, shown, 0))
        shown = showing_further(machine, shown, figure)
    return found


def place_of(machine, sign, k):
    many = END_OF_PLACES.bit_length()
    levels = arrivals(machine, many)
    shown = showing(machine, sign)
    if k >= total(levels[many], shown):
        return None
    place = 0
    # Figure by figure: the sign stands there for the k-th time in the block of places with a 0 next, or behind it.
    for behind in reversed(range(many)):
        low = showing_further(machine, shown, 0)
        ahead = total(levels[behind], low)
        if k < ahead:
            shown = low
            place = 2 * place
        else:
            shown = showing_further(machine, shown, 1)
            place = 2 * place + 1
            k -= ahead
    return place if place < END_OF_PLACES else None
