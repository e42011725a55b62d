"""A book's rules: how their lines are read, and which variables they have."""

from protesthall.atoms import read_atom
from protesthall.texts import is_name, read_number

MOST_CONDITIONS = 6
MOST_ADDED = 1000000
VARIABLES = {"X": 1, "Y": 2, "Z": 3}


class Rule:
    """A rule's head, and its conditions kind by kind, within a kind in the order of its line."""

    def __init__(self, line, head):
        self.line = line
        self.head = head
        self.wanted = []
        self.barred = []
        self.differs = []
        self.limits = []


def read_rule(words, predicates):
    """The rule that a line's words tell, None if they're wrong."""
    if len(words) < 2:
        return None
    head = read_atom(words[1], predicates, dict(VARIABLES))
    if head is None:
        return None
    rule = Rule(" ".join(words), head)
    rest = words[2:]
    told = 0
    while rest:
        used = take_condition(rule, rest, predicates)
        told += 1
        if used == 0 or told > MOST_CONDITIONS:
            return None
        rest = rest[used:]
    return rule


def take_condition(rule, words, predicates):
    """Give the rule the condition with which words begin; how many words that is, 0 if it's wrong."""
    if words[0] == "if":
        return take_atom(rule.wanted, words[1:2], predicates)
    if words[0] == "unless":
        return take_atom(rule.barred, words[1:2], predicates)
    if words[0] == "differ":
        return take_differ(rule.differs, words[1:3])
    if words[0] == "when":
        return take_limit(rule.limits, words[1:6])
    return 0


def take_atom(atoms, words, predicates):
    if len(words) < 1:
        return 0
    atom = read_atom(words[0], predicates, dict(VARIABLES))
    if atom is None:
        return 0
    atoms.append(atom)
    return 2


def take_differ(differs, words):
    if len(words) < 2 or words[0] == words[1]:
        return 0
    if words[0] not in VARIABLES or words[1] not in VARIABLES:
        return 0
    differs.append((VARIABLES[words[0]], VARIABLES[words[1]]))
    return 3


def take_limit(limits, words):
    """As take_condition, of the words behind when: two names with a sign between, perhaps + and a number."""
    if len(words) < 3 or words[1] not in ("<", "<="):
        return 0
    if not is_name(words[0]) or not is_name(words[2]):
        return 0
    if words[3:4] != ["+"]:
        limits.append((words[0], words[1], words[2], 0))
        return 4
    added = read_number(words[4]) if len(words) > 4 else -1
    if not 1 <= added <= MOST_ADDED:
        return 0
    limits.append((words[0], words[1], words[2], added))
    return 6


def has_variable(rule, variable):
    """Whether an instance of the rule puts a boat in the place of this variable."""
    atoms = [rule.head] + rule.wanted + rule.barred
    return any([variable in atom[1:] for atom in atoms]) or any([variable in pair for pair in rule.differs])
