"""Books whose equations come one by one [18, 19]."""

from zipspring.books import MOST_EQUATIONS
from zipspring.errors import NoName, Told, TooBig, Waits
from zipspring.terms import names_in
from zipspring.verdicts import verdict
from zipspring.walks import walk_by


class Coming:
    """A book that takes its equations one by one."""

    def __init__(self):
        self.terms = {}

    def tell(self, name, term):
        if name in self.terms:
            raise Told(f"{name} has its equation already")
        if len(self.terms) == MOST_EQUATIONS:
            raise TooBig(f"there are {MOST_EQUATIONS} equations already")
        self.terms[name] = term

    def term(self, name):
        """The term of a name, or NoName."""
        if name not in self.terms:
            raise NoName(f"no equation has the name {name}")
        return self.terms[name]

    def sign(self, name, n):
        self.term(name)
        told = walk_by(self.terms, name, n)
        if told[0] == "free":
            return ("free",)
        return (told[0], told[1])

    def met_from(self, name):
        """The names that are met from a name by terms, it first; those without equation, too."""
        met = [name]
        looked = 0
        while looked < len(met):
            here = met[looked]
            looked += 1
            if here in self.terms:
                met.extend([other for other in names_in(self.terms[here]) if other not in met])
        return met

    def is_ready(self, name):
        return all([other in self.terms for other in self.met_from(name)])

    def ready(self):
        return sorted([name for name in self.terms if self.is_ready(name)])

    def verdict(self, name):
        self.term(name)
        if not self.is_ready(name):
            raise Waits(f"{name} hangs on an equation that has not come")
        return verdict(tuple([(other, self.terms[other]) for other in self.met_from(name)]), name)
