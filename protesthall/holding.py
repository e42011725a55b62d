"""What holds in a case: the instances that count, and what is known by them, in order."""

from protesthall.atoms import put_boats
from protesthall.books import layers_of
from protesthall.rules import has_variable


class Instance:
    """A rule with boats in the places of its variables: boats has 0, then the boats of X, Y, Z."""

    def __init__(self, number, rule, boats):
        self.number = number
        self.boats = boats
        self.head = put_boats(rule.head, boats)
        self.wanted = [put_boats(atom, boats) for atom in rule.wanted]
        self.barred = [put_boats(atom, boats) for atom in rule.barred]


def counting_instances(book, case):
    """The instances that count in the case, in order."""
    instances = []
    for number, rule in enumerate(book.rules, start=1):
        if number not in case.idle and all([limit_holds(limit, case.numbers) for limit in rule.limits]):
            for boats in boat_choices(rule, len(case.boats)):
                if all([boats[pair[0]] != boats[pair[1]] for pair in rule.differs]):
                    instances.append(Instance(number, rule, boats))
    return instances


def limit_holds(limit, numbers):
    """Whether a condition when, as a name, a sign, a name and what's added, holds by these numbers."""
    if limit[0] not in numbers or limit[2] not in numbers:
        return False
    top = numbers[limit[2]] + limit[3]
    if limit[1] == "<":
        return numbers[limit[0]] < top
    return numbers[limit[0]] <= top


def boat_choices(rule, how_many):
    """All the ways to put so many boats in the places of a rule's variables, in order."""
    choices = [(0,)]
    for variable in (1, 2, 3):
        boats = list(range(1, how_many + 1)) if has_variable(rule, variable) else [0]
        choices = with_each(choices, boats)
    return choices


def with_each(choices, boats):
    longer = []
    for choice in choices:
        for boat in boats:
            longer.append(choice + (boat,))
    return longer


def known_atoms(book, case, instances):
    """What holds, in the order in which it's known: by each atom its instance, None for a fact."""
    known = {}
    for fact in case.facts:
        known[fact] = None
    layers = layers_of(book)
    for layer in sorted(set(layers)):
        of_layer = [instance for instance in instances if layers[instance.head[0] - 1] == layer]
        know_layer(known, of_layer)
    return known


def know_layer(known, instances):
    """Add what the instances of a layer give, round by round."""
    heads = new_heads(known, instances)
    while heads:
        known.update(heads)
        heads = new_heads(known, instances)


def new_heads(known, instances):
    """The heads that a round adds to what's known, each with the first instance that gives it."""
    heads = {}
    for instance in instances:
        if instance.head not in known and blocker(instance, known) is None:
            heads.setdefault(instance.head, instance)
    return heads


def blocker(instance, known):
    """The first condition if that isn't known, else the first condition unless that is, None if there's neither."""
    for atom in instance.wanted:
        if atom not in known:
            return atom
    for atom in instance.barred:
        if atom in known:
            return atom
    return None
