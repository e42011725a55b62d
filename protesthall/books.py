"""The rule book: how its lines are read and written back, its rings and its layers."""

from protesthall.rules import read_rule
from protesthall.texts import is_name, read_number

MOST_PREDICATES = 16
MOST_PLACES = 2
MOST_RULES = 24
MOST_PENALTIES = 6


class Book:
    """A book as far as its lines are taken; a name that isn't told is empty."""

    def __init__(self):
        self.name = ""
        self.predicates = {}
        self.rules = []
        self.valid = ""
        self.penalties = []

    def take(self, words):
        """Take a line's words, if they're right; whether they are."""
        if words[0] == "rule":
            return self.take_rule(words)
        if len(words) == 2 and words[0] == "book":
            return self.take_name(words[1])
        if len(words) == 2 and words[0] == "valid":
            return self.take_valid(words[1])
        if len(words) == 3 and words[0] == "pred":
            return self.take_predicate(words[1], read_number(words[2]))
        if len(words) == 3 and words[0] == "penalty":
            return self.take_penalty(words[1], words[2])
        return False

    def take_name(self, name):
        if self.name != "" or not is_name(name):
            return False
        self.name = name
        return True

    def take_predicate(self, name, places):
        if len(self.predicates) == MOST_PREDICATES or name in self.predicates:
            return False
        if not is_name(name) or not 0 <= places <= MOST_PLACES:
            return False
        self.predicates[name] = (len(self.predicates) + 1, places)
        return True

    def take_rule(self, words):
        rule = read_rule(words, self.predicates)
        if rule is None or len(self.rules) == MOST_RULES:
            return False
        self.rules.append(rule)
        return True

    def take_valid(self, name):
        if self.valid != "" or not self.has_places(name, 0):
            return False
        self.valid = name
        return True

    def take_penalty(self, name, code):
        if len(self.penalties) == MOST_PENALTIES:
            return False
        if not self.has_places(name, 1) or not is_name(code):
            return False
        self.penalties.append((name, code))
        return True

    def has_places(self, name, places):
        """Whether there's a predicate of this name, with so many places."""
        return name in self.predicates and self.predicates[name][1] == places

    def is_whole(self):
        """Whether the book is right as a whole, if each of its lines is."""
        return self.name != "" and not has_ring(self.rules)


def write_book(book):
    """The lines of the book, written back."""
    lines = ["book " + book.name]
    for name, predicate in book.predicates.items():
        lines.append("pred " + name + " " + str(predicate[1]))
    lines.extend([rule.line for rule in book.rules])
    if book.valid != "":
        lines.append("valid " + book.valid)
    lines.extend(["penalty " + " ".join(penalty) for penalty in book.penalties])
    return lines


def has_ring(rules):
    """Whether there's a ring through unless."""
    for rule in rules:
        for atom in rule.barred:
            if rule.head[0] in behind(atom[0], rules):
                return True
    return False


def behind(predicate, rules):
    """The predicates that stand behind this one in whatever many steps, itself among them."""
    found = [predicate]
    place = 0
    while place < len(found):
        atoms = next_behind(found[place], rules)
        for atom in atoms:
            if atom[0] not in found:
                found.append(atom[0])
        place += 1
    return found


def next_behind(predicate, rules):
    """The atoms of the conditions of this predicate's rules."""
    atoms = []
    for rule in rules:
        if rule.head[0] == predicate:
            atoms.extend(rule.wanted + rule.barred)
    return atoms


def layers_of(book):
    """The predicates' layers, in order."""
    layers = [0 for name in book.predicates]
    # So many rounds are enough: without a ring through unless, no predicate is raised by way of itself.
    for name in book.predicates:
        for rule in book.rules:
            layers[rule.head[0] - 1] = least_layer(rule, layers)
    return layers


def least_layer(rule, layers):
    """The least layer for the head's predicate, as far as this rule and the layers so far ask for it."""
    floors = [layers[atom[0] - 1] for atom in [rule.head] + rule.wanted]
    floors.extend([layers[atom[0] - 1] + 1 for atom in rule.barred])
    return max(floors)
