"""Cases: how their lines are read and written back."""

from protesthall.atoms import read_atom, write_atom
from protesthall.texts import is_name, read_number

MOST_BOATS = 4
MOST_FACTS = 60
MOST_NUMBERS = 8
MOST_VALUE = 1000000


class Case:
    """A case as far as its lines are taken; idle has the numbers of the rules that don't count in it."""

    def __init__(self, predicates):
        self.predicates = predicates
        self.name = ""
        self.boats = {}
        self.facts = []
        self.numbers = {}
        self.idle = {}

    def take(self, words):
        """Take a line's words, if they're right; whether they are."""
        if len(words) == 2 and words[0] == "case":
            return self.take_name(words[1])
        if len(words) == 2 and words[0] == "boat":
            return self.take_boat(words[1])
        if len(words) == 2 and words[0] == "fact":
            return self.take_fact(words[1])
        if len(words) == 3 and words[0] == "number":
            return self.take_number(words[1], read_number(words[2]))
        return False

    def take_name(self, name):
        if self.name != "" or not is_name(name):
            return False
        self.name = name
        return True

    def take_boat(self, name):
        if len(self.boats) == MOST_BOATS or name in self.boats or not is_name(name):
            return False
        self.boats[name] = len(self.boats) + 1
        return True

    def take_fact(self, word):
        atom = self.find_atom(word)
        if atom is None or atom in self.facts or len(self.facts) == MOST_FACTS:
            return False
        self.facts.append(atom)
        return True

    def take_number(self, name, value):
        if len(self.numbers) == MOST_NUMBERS or name in self.numbers:
            return False
        if not is_name(name) or not 0 <= value <= MOST_VALUE:
            return False
        self.numbers[name] = value
        return True

    def find_atom(self, word):
        """The atom of this case that the word is, None if it's none."""
        return read_atom(word, self.predicates, self.boats)

    def is_whole(self):
        """Whether the case is right as a whole, if each of its lines is."""
        return self.name != "" and len(self.boats) > 0


def suppose_fact(case, value, atom):
    """The case as it would be if the atom were a fact (1), or weren't one (0)."""
    supposed = Case(case.predicates)
    supposed.name = case.name
    supposed.boats = dict(case.boats)
    supposed.facts = [fact for fact in case.facts if fact != atom]
    supposed.numbers = dict(case.numbers)
    supposed.idle = dict(case.idle)
    if value == 1:
        supposed.facts.append(atom)
    return supposed


def write_case(case):
    """The lines of the case, written back."""
    lines = ["case " + case.name]
    lines.extend(["boat " + name for name in case.boats])
    lines.extend(["fact " + write_atom(atom, case.predicates, case.boats) for atom in case.facts])
    for name, value in case.numbers.items():
        lines.append("number " + name + " " + str(value))
    return lines
