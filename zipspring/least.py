"""The least machine of a row [14]."""


class Classes:
    """A machine's states in classes, parted until the states of each class have one row (Hopcroft's way)."""

    def __init__(self, machine):
        self.class_of = []
        self.members = []
        self.waiting = []
        self.waits = []
        numbers = {}
        for state, (sign, even, odd) in enumerate(machine):
            if sign not in numbers:
                numbers[sign] = self.new_class({})
                self.wait(numbers[sign])
            self.class_of.append(numbers[sign])
            self.members[numbers[sign]][state] = True

    def new_class(self, members):
        self.members.append(members)
        self.waits.append(False)
        return len(self.members) - 1

    def wait(self, number):
        self.waits[number] = True
        self.waiting.append(number)

    def take(self):
        """Takes a class that waits: a list of its states."""
        number = self.waiting.pop()
        self.waits[number] = False
        return list(self.members[number])

    def part(self, old, leaving):
        """Parts the states that leave an old class from those that stay, where both are some."""
        if len(leaving) == len(self.members[old]):
            return
        new = self.new_class({state: True for state in leaving})
        for state in leaving:
            del self.members[old][state]
            self.class_of[state] = new
        # An old class that does not wait has parted the others already: then one of the two is enough to part them
        # further, and the smaller one is less work.
        if self.waits[old] or len(leaving) <= len(self.members[old]):
            self.wait(new)
        else:
            self.wait(old)

    def part_by(self, comers):
        """Parts each class into the states that come to a class by one step, and those that do not."""
        leaving = {}
        for state in comers:
            leaving.setdefault(self.class_of[state], []).append(state)
        for old, states in leaving.items():
            self.part(old, states)


def comers_of(machine, step):
    """Of each state the list of those that have it at that step: 1 is even, 2 is odd."""
    comers = [[] for state in machine]
    for number, state in enumerate(machine):
        comers[state[step]].append(number)
    return comers


def classes_of(machine):
    """Of each state a number that it shares with just the states of the same row."""
    classes = Classes(machine)
    steps = (comers_of(machine, 1), comers_of(machine, 2))
    while classes.waiting:
        states = classes.take()
        for comers in steps:
            classes.part_by([comer for state in states for comer in comers[state]])
    return classes.class_of


def least(machine):
    class_of = classes_of(machine)
    numbers = {class_of[0]: 0}
    met = [0]
    told = []
    while len(told) < len(met):
        sign, even, odd = machine[met[len(told)]]
        for state in (even, odd):
            if class_of[state] not in numbers:
                numbers[class_of[state]] = len(met)
                met.append(state)
        told.append((sign, numbers[class_of[even]], numbers[class_of[odd]]))
    return tuple(told)


def kernel_many(machine):
    return len(least(machine))
