"""Atoms: a predicate's number and two places, 0 for a place that the predicate doesn't have."""


def read_atom(word, predicates, fillers):
    """The atom that a word is, None if it's none.

    predicates: by name a predicate's number and how many places it has.
    fillers: by name the numbers of what may stand in a place, variables or boats.
    """
    name = word
    places = []
    if "(" in word:
        if not word.endswith(")"):
            return None
        name = word[:word.index("(")]
        places = word[len(name) + 1:-1].split(",")
    if name not in predicates or predicates[name][1] != len(places):
        return None
    if not all([place in fillers for place in places]):
        return None
    numbers = [fillers[place] for place in places] + [0, 0]
    return (predicates[name][0], numbers[0], numbers[1])


def write_atom(atom, predicates, fillers):
    """The word that read_atom reads as this atom."""
    name = list(predicates)[atom[0] - 1]
    names = list(fillers)
    places = [names[place - 1] for place in atom[1:] if place > 0]
    if not places:
        return name
    return name + "(" + ",".join(places) + ")"


def put_boats(atom, boats):
    """A rule's atom with boats in the places of its variables: boats[v] for variable v, and boats[0] is 0."""
    return (atom[0], boats[atom[1]], boats[atom[2]])
