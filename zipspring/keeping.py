"""Whether rows keep the equations of a book [12]."""

from zipspring.alike import alike
from zipspring.joining import ahead, behind, zipped


def machine_of(term, known):
    """The machine of a term's row, by the machines of its names; TooBig where that of a term within it is too big."""
    if term[0] == "row":
        return known[term[1]]
    if term[0] == "sign":
        return ahead(term[1], machine_of(term[2], known))
    if term[0] == "behind":
        return behind(machine_of(term[1], known))
    one = machine_of(term[1], known)
    return zipped(one, machine_of(term[2], known))


def kept(book, machines):
    known = {name: machine for (name, term), machine in zip(book, machines)}
    # All of them first: what is refused goes ahead of what breaks an equation.
    rows = [machine_of(term, known) for name, term in book]
    for (name, term), row in zip(book, rows):
        told = alike(known[name], row)
        if told[0] == "unlike":
            return ("break", name, told[1])
    return ("keep",)
