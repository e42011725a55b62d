"""Certificates: the steps that show that an atom holds or doesn't, and the atoms that are away."""

from protesthall.holding import blocker, counting_instances, known_atoms


class Certificate:
    """Steps, each of seven numbers, and atoms away, each of three."""

    def __init__(self, steps, away):
        self.steps = steps
        self.away = away


def make_certificate(book, case, atom):
    instances = counting_instances(book, case)
    known = known_atoms(book, case, instances)
    needed = all_needed(atom, known, by_heads(instances))
    steps = [make_step(other, known[other]) for other in known if other in needed]
    away = sorted([other for other in needed if other not in known])
    return Certificate(steps, away)


def make_step(atom, instance):
    """The step of a known atom by its instance, None for a fact."""
    if instance is None:
        return (0,) + atom + (0, 0, 0)
    return (instance.number,) + atom + instance.boats[1:]


def atom_of(step):
    return step[1:4]


def found_facts(certificate):
    """The facts among the certificate's steps, in order."""
    return [atom_of(step) for step in certificate.steps if step[0] == 0]


def by_heads(instances):
    """By each head its instances, in order."""
    heads = {}
    for instance in instances:
        heads.setdefault(instance.head, []).append(instance)
    return heads


def all_needed(atom, known, heads):
    """All that the atom's certificate needs; what isn't known of it is needed away."""
    needed = {atom: True}
    waiting = [atom]
    while waiting:
        straight = next_needed(waiting.pop(), known, heads)
        for other in straight:
            if other not in needed:
                needed[other] = True
                waiting.append(other)
    return needed


def next_needed(atom, known, heads):
    """What is needed straight for an atom that's needed, or needed away."""
    if atom not in known:
        return [blocker(instance, known) for instance in heads.get(atom, [])]
    instance = known[atom]
    if instance is None:
        return []
    return instance.wanted + instance.barred
