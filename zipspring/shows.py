"""Terms and books as texts [6]."""

from zipspring.terms import parts_of


def first_word(term):
    if term[0] == "row":
        return term[1]
    if term[0] == "sign":
        return str(term[1])
    return term[0]


def show_term(term):
    words = []
    waiting = [term]
    while waiting:
        here = waiting.pop()
        words.append(first_word(here))
        # The last one is taken next, and a part's words stand ahead of those of the part behind it.
        waiting.extend(parts_of(here)[::-1])
    return " ".join(words)


def show_book(book):
    return "\n".join([f"{name} = {show_term(term)}" for name, term in book])
