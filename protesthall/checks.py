"""Certificates that anybody hands in: how they're read, and whether they're right."""

from protesthall.holding import counting_instances
from protesthall.proofs import Certificate, atom_of, make_step

MOST_TOLD = 1000000
STEP_SIZE = 7
ATOM_SIZE = 3


def read_certificate(numbers):
    """The certificate that the numbers tell, None if they aren't one."""
    if not numbers or not all([0 <= number <= MOST_TOLD for number in numbers]):
        return None
    end = 1 + STEP_SIZE * numbers[0]
    if end >= len(numbers) or end + 1 + ATOM_SIZE * numbers[end] != len(numbers):
        return None
    return Certificate(cut(numbers[1:end], STEP_SIZE), cut(numbers[end + 1:], ATOM_SIZE))


def cut(numbers, size):
    """The numbers as tuples of this size, one behind another."""
    return [tuple(numbers[place:place + size]) for place in range(0, len(numbers), size)]


def first_wrong(book, case, certificate):
    """Which step or atom away is the first that's wrong, counted from 1, steps first; 0 if all are right."""
    instances = counting_instances(book, case)
    away = marked(certificate.away)
    place = first_wrong_step(certificate.steps, possible_steps(case, instances), away)
    if place > 0:
        return place
    shown = marked([atom_of(step) for step in certificate.steps])
    wrong = never_away(case, instances, shown, away)
    for place, atom in enumerate(certificate.away, start=len(certificate.steps) + 1):
        if atom in wrong:
            return place
    return 0


def marked(atoms):
    """The atoms as a dict, to be asked whether they're in it."""
    marks = {}
    for atom in atoms:
        marks[atom] = True
    return marks


def possible_steps(case, instances):
    """By each step that may be right its instance, None for a fact."""
    steps = {}
    for fact in case.facts:
        steps[make_step(fact, None)] = None
    for instance in instances:
        steps[make_step(instance.head, instance)] = instance
    return steps


def first_wrong_step(steps, possible, away):
    """Which step is the first that's wrong, counted from 1; 0 if all are right."""
    shown = {}
    for place, step in enumerate(steps, start=1):
        if step not in possible or not is_borne(possible[step], shown, away):
            return place
        shown[atom_of(step)] = True
    return 0


def is_borne(instance, shown, away):
    """Whether all that a step by this instance, None for a fact, rests on is shown or away."""
    if instance is None:
        return True
    return all([atom in shown for atom in instance.wanted]) and all([atom in away for atom in instance.barred])


def never_away(case, instances, shown, away):
    """The atoms that it's wrong to tell away: the facts, and each head with an instance that nothing stops."""
    wrong = marked(case.facts)
    for instance in instances:
        if not is_stopped(instance, shown, away):
            wrong[instance.head] = True
    return wrong


def is_stopped(instance, shown, away):
    """Whether some condition if of the instance is away, or some condition unless is shown."""
    return any([atom in away for atom in instance.wanted]) or any([atom in shown for atom in instance.barred])
