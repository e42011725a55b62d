"""The promises, held against many made-up books and cases.

What the program answers is compared with a reading of the document that is
written here a second time, from the pieces of which the texts were made.
"""

import itertools
import random
import unittest

from tests.helper import book, every, holds, layers, lines, new_case, proof, run

VARIABLES = "XYZ"
BOATS = "ABCD"


class World:
    """A made-up book and case: the pieces, and the texts made of them."""

    def __init__(self, source):
        self.source = source
        self.places = [source.choice((0, 1, 1, 2, 2)) for each in range(source.randint(2, 5))]
        self.boats = source.randint(1, 4 if source.random() < 0.3 else 3)
        self.rules = [self.make_rule() for each in range(source.randint(1, 7))]
        self.numbers = {name: source.randint(0, 4) for name in "mno" if source.random() < 0.8}
        share = source.choice((0.1, 0.3))
        self.facts = [atom for atom in self.atoms() if source.random() < share][:60]
        source.shuffle(self.facts)

    def make_atom(self):
        predicate = self.source.randrange(len(self.places))
        return (predicate,) + tuple(self.source.randrange(3) for each in range(self.places[predicate]))

    def make_rule(self):
        conditions = []
        for each in range(self.source.randint(0, 4)):
            kind = self.source.choice(("if", "if", "if", "unless", "unless", "differ", "when"))
            if kind in ("if", "unless"):
                conditions.append((kind, self.make_atom()))
            elif kind == "differ":
                conditions.append((kind, tuple(self.source.sample(range(3), 2))))
            else:
                conditions.append((kind, (self.source.choice("mno"), self.source.choice(("<", "<=")),
                                          self.source.choice("mno"), self.source.choice((0, 1, 2)))))
        return (self.make_atom(), tuple(conditions))

    def atoms(self):
        return [(predicate,) + boats for predicate, places in enumerate(self.places)
                for boats in itertools.product(range(self.boats), repeat=places)]

    def book(self):
        told = ["book b"] + ["pred p%d %d" % each for each in enumerate(self.places)]
        return lines(*told, *[self.write_rule(each) for each in self.rules])

    def write_rule(self, each):
        words = ["rule", write(each[0], VARIABLES)]
        for kind, what in each[1]:
            if kind in ("if", "unless"):
                words += [kind, write(what, VARIABLES)]
            elif kind == "differ":
                words += [kind, VARIABLES[what[0]], VARIABLES[what[1]]]
            else:
                words += [kind, *what[:3]] + (["+", str(what[3])] if what[3] else [])
        return " ".join(words)

    def case(self):
        told = ["case c"] + ["boat " + BOATS[each] for each in range(self.boats)]
        told += ["fact " + write(atom, BOATS) for atom in self.facts]
        return lines(*told, *["number %s %d" % each for each in self.numbers.items()])

    def edges(self):
        return [(head[0], what[0], kind == "unless") for head, conditions in self.rules
                for kind, what in conditions if kind in ("if", "unless")]

    def heights(self):
        """The predicates' layers, None if there's a ring through unless."""
        count = len(self.places)
        height = [0] * count
        for each in range(count * count + 1):
            higher = list(height)
            for head, condition, unless in self.edges():
                higher[head] = max(higher[head], height[condition] + (1 if unless else 0))
            if higher == height:
                return height
            height = higher
        return None

    def counting(self):
        """Each instance that counts: its rule, its boats, its head, its conditions if, its conditions unless."""
        for number, (head, conditions) in enumerate(self.rules, start=1):
            atoms = [what for kind, what in conditions if kind in ("if", "unless")] + [head]
            used = {place for atom in atoms for place in atom[1:]}
            used |= {place for kind, what in conditions if kind == "differ" for place in what}
            choices = [range(self.boats) if each in used else [None] for each in range(3)]
            for boats in itertools.product(*choices):
                if all(self.condition_counts(kind, what, boats) for kind, what in conditions):
                    yield (number, boats, put(head, boats), [put(w, boats) for k, w in conditions if k == "if"],
                           [put(w, boats) for k, w in conditions if k == "unless"])

    def condition_counts(self, kind, what, boats):
        if kind == "differ":
            return boats[what[0]] != boats[what[1]]
        if kind == "when":
            first, second = self.numbers.get(what[0]), self.numbers.get(what[2])
            if first is None or second is None:
                return False
            return first - second < what[3] if what[1] == "<" else first - second <= what[3]
        return True

    def holding(self):
        """What holds, in whatever order."""
        height = self.heights()
        held = set(self.facts)
        for layer in range(max(height) + 1):
            grown = True
            while grown:
                grown = False
                for number, boats, head, wanted, barred in self.counting():
                    if height[head[0]] == layer and head not in held and held >= set(wanted):
                        if held.isdisjoint(barred):
                            held.add(head)
                            grown = True
        return held


def write(atom, names):
    if len(atom) == 1:
        return "p%d" % atom
    return "p%d(%s)" % (atom[0], ",".join(names[each] for each in atom[1:]))


def put(atom, boats):
    return (atom[0],) + tuple(boats[each] for each in atom[1:])


def numbers_of(atom):
    """An atom as the answers tell it."""
    return tuple(([each + 1 for each in atom] + [0, 0])[:3])


def read_proof(answer):
    """Whether the atom holds, the steps and the atoms away."""
    count = answer[1]
    steps = [tuple(answer[2 + 7 * each:9 + 7 * each]) for each in range(count)]
    rest = answer[2 + 7 * count:]
    away = [tuple(rest[1 + 3 * each:4 + 3 * each]) for each in range(rest[0])]
    assert len(rest) == 1 + 3 * rest[0]
    return answer[0], steps, away


def worlds(count):
    """Made-up worlds, all without a ring through unless, most of them with facts and unless."""
    source = random.Random(20)
    made = 0
    while made < count:
        world = World(source)
        if world.heights() is not None:
            made += 1
            yield world


class Promises(unittest.TestCase):
    def test_rings(self):
        source = random.Random(7)
        rings = 0
        for each in range(400):
            world = World(source)
            height = world.heights()
            text = world.book()
            with self.subTest(text=text):
                answer = run(book(text), layers())
                if height is None:
                    rings += 1
                    self.assertEqual(answer, [[-1001 - text.count("\n")], [-1]])
                else:
                    self.assertEqual(answer, [[len(world.places), len(world.rules)], height])
        self.assertTrue(40 < rings < 360)

    def test_what_holds(self):
        for world in worlds(150):
            with self.subTest(book=world.book(), case=world.case()):
                held = world.holding()
                asked = [every(1, each + 1) for each in range(len(world.places))]
                told = run(book(world.book()), new_case(world.case()), *asked)[2:]
                for predicate, answer in enumerate(told):
                    atoms = sorted(numbers_of(atom)[1:] for atom in held if atom[0] == predicate)
                    self.assertEqual(answer, [len(atoms)] + [place for atom in atoms for place in atom])

    def test_1_the_order_of_rules_and_facts(self):
        for world in worlds(60):
            with self.subTest(book=world.book(), case=world.case()):
                asked = [holds(1, write(atom, BOATS)) for atom in world.atoms()][:90]
                before = run(book(world.book()), new_case(world.case()), *asked)
                for each in range(3):
                    world.source.shuffle(world.rules)
                    world.source.shuffle(world.facts)
                    self.assertEqual(run(book(world.book()), new_case(world.case()), *asked), before)

    def test_2_each_atom_has_a_certificate_that_is_right(self):
        for world in worlds(150):
            with self.subTest(book=world.book(), case=world.case()):
                held = world.holding()
                instances = list(world.counting())
                asked = world.source.sample(world.atoms(), min(25, len(world.atoms())))
                calls = [proof(1, write(atom, BOATS)) for atom in asked]
                told = run(book(world.book()), new_case(world.case()), *calls)[2:]
                for atom, answer in zip(asked, told):
                    value, steps, away = read_proof(answer)
                    self.assertEqual(value, 1 if atom in held else 0)
                    shown = away if value == 0 else [step[1:4] for step in steps]
                    self.assertIn(numbers_of(atom), shown)
                    self.check_steps(world, instances, steps, away)
                    self.check_away(world, instances, steps, away)

    def check_steps(self, world, instances, steps, away):
        right = {(0,) + numbers_of(atom) + (0, 0, 0): ([], []) for atom in world.facts}
        for number, boats, head, wanted, barred in instances:
            step = (number,) + numbers_of(head) + tuple(0 if each is None else each + 1 for each in boats)
            right[step] = (wanted, barred)
        before = set()
        for step in steps:
            self.assertIn(step, right)
            wanted, barred = right[step]
            self.assertTrue({numbers_of(atom) for atom in wanted} <= before)
            self.assertTrue({numbers_of(atom) for atom in barred} <= set(away))
            self.assertNotIn(step[1:4], before)
            before.add(step[1:4])

    def check_away(self, world, instances, steps, away):
        shown = {step[1:4] for step in steps}
        self.assertEqual(away, sorted(set(away)))
        for atom in away:
            self.assertNotIn(atom, {numbers_of(fact) for fact in world.facts})
            for number, boats, head, wanted, barred in instances:
                if numbers_of(head) == atom:
                    self.assertTrue(any(numbers_of(each) in away for each in wanted)
                                    or any(numbers_of(each) in shown for each in barred))

    def test_the_certificate_is_the_one_that_the_document_names(self):
        for world in worlds(150):
            with self.subTest(book=world.book(), case=world.case()):
                asked = world.source.sample(world.atoms(), min(25, len(world.atoms())))
                calls = [proof(1, write(atom, BOATS)) for atom in asked]
                told = run(book(world.book()), new_case(world.case()), *calls)[2:]
                order, instances = known_in_order(world), list(world.counting())
                for atom, answer in zip(asked, told):
                    self.assertEqual(read_proof(answer)[1:], named_certificate(order, instances, atom))

    def test_4_what_is_done_in_one_case_touches_no_other(self):
        for world in worlds(30):
            with self.subTest(book=world.book(), case=world.case()):
                asked = [every(2, each + 1) for each in range(len(world.places))]
                asked += [proof(2, write(atom, BOATS)) for atom in world.atoms()[:20]]
                opened = [book(world.book()), new_case(world.case()), new_case(world.case())]
                changes = [[6, 1, each + 1, 0] for each in range(len(world.rules))]
                changes += [[5, 1, 4, 1, ord(name)] for name in "mno"]
                for atom in world.atoms()[:20]:
                    told = list(write(atom, BOATS).encode())
                    changes.append([4, 1, 0 if atom in world.facts else 1, len(told)] + told)
                before = run(*opened, *asked)[3:]
                after = run(*opened, *changes, *asked)
                self.assertTrue(all(answer[0] >= 0 for answer in after[3:3 + len(changes)]))
                self.assertEqual(after[3 + len(changes):], before)


def known_in_order(world):
    """What is known, in order: pairs of an atom and its instance, None for a fact."""
    order = [(atom, None) for atom in world.facts]
    height = world.heights()
    for layer in range(max(height) + 1):
        while True:
            known = {atom for atom, instance in order}
            fresh = []
            for instance in world.counting():
                head, wanted, barred = instance[2:]
                if height[head[0]] == layer and known >= set(wanted) and known.isdisjoint(barred):
                    if head not in known and head not in [atom for atom, before in fresh]:
                        fresh.append((head, instance))
            if not fresh:
                break
            order += fresh
    return order


def named_certificate(order, instances, atom):
    known = dict(order)
    needed, away = set(), set()
    (needed if atom in known else away).add(atom)
    before = None
    while before != (len(needed), len(away)):
        before = (len(needed), len(away))
        for each in list(needed):
            if known[each] is not None:
                needed.update(known[each][3])
                away.update(known[each][4])
        for instance in instances:
            if instance[2] in away:
                missing = [each for each in instance[3] if each not in known]
                if missing:
                    away.add(missing[0])
                else:
                    needed.add([each for each in instance[4] if each in known][0])
    steps = []
    for each, instance in order:
        if each in needed and instance is None:
            steps.append((0,) + numbers_of(each) + (0, 0, 0))
        elif each in needed:
            boats = tuple(0 if boat is None else boat + 1 for boat in instance[1])
            steps.append((instance[0],) + numbers_of(each) + boats)
    return steps, sorted(numbers_of(each) for each in away)


if __name__ == "__main__":
    unittest.main()
