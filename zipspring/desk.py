"""A desk that is told rows and answers with texts [20]."""

from zipspring.alike import alike
from zipspring.coming import Coming
from zipspring.counting import how_often, place_of
from zipspring.errors import NoRow, TooBig
from zipspring.machines import sign_at
from zipspring.reads import FEWEST_WORDS_OF_EQUATION, FIGURES, read_words
from zipspring.shows import show_book
from zipspring.terms import is_name

MOST_FIGURES = 30
# Of each kind of number the greatest one.
GREATEST = {"figure": 9, "few": 60, "near": 2000, "number": 10 ** 30 - 1}
# What stands behind the first word of a row: names and kinds of numbers.
FORMS = {
    "sign": ("name", "near"),
    "far": ("name", "number"),
    "signs": ("name", "few"),
    "ready": (),
    "one": ("name",),
    "alike": ("name", "name"),
    "often": ("name", "figure", "number"),
    "place": ("name", "figure", "number"),
    "show": ("name",),
}


def is_number(word):
    if not 1 <= len(word) <= MOST_FIGURES or not all([figure in FIGURES for figure in word]):
        return False
    return word == "0" or word[0] != "0"


def read_name(word):
    if not is_name(word):
        raise NoRow(f"no name: {word}")
    return word


def read_number(word, kind):
    if not is_number(word) or int(word) > GREATEST[kind]:
        raise NoRow(f"no number from 0 to {GREATEST[kind]}: {word}")
    return int(word)


def words_of(row):
    if not isinstance(row, str):
        raise NoRow("no text")
    words = row.split(" ")
    if "" in words:
        raise NoRow("no words parted by single blanks")
    return words


def asked_for(words):
    """What stands behind the first word of a row that is no equation."""
    if words[0] not in FORMS or len(words) != 1 + len(FORMS[words[0]]):
        raise NoRow(f"no row of these words: {words[0]}")
    forms = FORMS[words[0]]
    return [read_name(word) if form == "name" else read_number(word, form) for word, form in zip(words[1:], forms)]


def verdict_or_none(coming, name):
    """The verdict of a name, or None where its machine is too big."""
    try:
        return coming.verdict(name)
    except TooBig:
        return None


def only_machines(coming, names):
    """The machines of names that have just one row each."""
    # A name without equation is refused ahead of one that waits, whichever stands first.
    for name in names:
        coming.term(name)
    verdicts = [verdict_or_none(coming, name) for name in names]
    # So is a name that has more than one row, ahead of one whose machine is too big.
    if any([told is not None and told[0] == "more" for told in verdicts]):
        raise NoRow("a name that has more than one row")
    if any([told is None for told in verdicts]):
        raise TooBig("the machine of a name")
    return [told[1] for told in verdicts]


def say_sign(coming, name, n):
    told = coming.sign(name, n)
    if told[0] == "waits":
        return f"waits {told[1]}"
    return str(told[1]) if told[0] == "sign" else "free"


def say_far(coming, name, n):
    return str(sign_at(only_machines(coming, [name])[0], n))


def one_mark(told):
    """What is told of a sign, as one sign of a text."""
    if told[0] == "waits":
        return "."
    return str(told[1]) if told[0] == "sign" else "?"


def say_signs(coming, name, n):
    # A name without equation is refused where no sign is asked for, too.
    coming.term(name)
    return "".join([one_mark(coming.sign(name, place)) for place in range(n)]) if n > 0 else "-"


def say_ready(coming):
    names = coming.ready()
    return " ".join(names) if names else "-"


def say_one(coming, name):
    told = coming.verdict(name)
    return "one" if told[0] == "one" else f"more {told[1]}"


def say_alike(coming, name, other):
    machines = only_machines(coming, [name, other])
    told = alike(machines[0], machines[1])
    return "alike" if told[0] == "alike" else f"unlike {told[1]}"


def say_often(coming, name, sign, n):
    return str(how_often(only_machines(coming, [name])[0], sign, n))


def say_place(coming, name, sign, k):
    place = place_of(only_machines(coming, [name])[0], sign, k)
    return "none" if place is None else str(place)


def say_show(coming, name):
    return show_book(((name, coming.term(name)),))


ANSWERS = {
    "sign": say_sign,
    "far": say_far,
    "signs": say_signs,
    "ready": say_ready,
    "one": say_one,
    "alike": say_alike,
    "often": say_often,
    "place": say_place,
    "show": say_show,
}


class Desk:
    """Answers rows by a coming book of its own."""

    def __init__(self):
        self.coming = Coming()

    def say(self, row):
        words = words_of(row)
        if len(words) >= FEWEST_WORDS_OF_EQUATION and words[1] == "=":
            name = read_name(words[0])
            self.coming.tell(name, read_words(words[2:]))
            return "ok"
        things = asked_for(words)
        answer = ANSWERS[words[0]]
        return answer(self.coming, *things)
