"""The promises, held against many made-up books and cases.

What the program answers is compared with a reading of the document that is
written here a second time, from the pieces of which the texts were made.
"""

import itertools
import random
import unittest

from tests.helper import (book, certificate, check, decide, decision, every, fact, holds, layers, lines, new_case,
                          number, penalties, proof, rule, run, stands, support, suppose, text, written)

VARIABLES = "XYZ"
BOATS = "ABCD"


class World:
    """A made-up book and case: the pieces, and the texts made of them."""

    def __init__(self, source):
        self.source = source
        self.places = [source.choice((0, 1, 1, 2, 2)) for each in range(source.randint(2, 5))]
        self.boats = source.randint(1, 4 if source.random() < 0.3 else 3)
        self.rules = [self.make_rule() for each in range(source.randint(1, 7))]
        self.numbers = {name: source.randint(0, 4) for name in "mno" if source.random() < 0.8}
        share = source.choice((0.1, 0.3))
        self.facts = [atom for atom in self.atoms() if source.random() < share][:60]
        source.shuffle(self.facts)
        self.idle = set()
        self.valid = self.one_of(0) if source.random() < 0.5 else None
        self.penalties = [self.one_of(1) for each in range(source.randint(0, 6)) if 1 in self.places]

    def one_of(self, places):
        """A predicate with so many places, None if there's none."""
        fitting = [each for each, count in enumerate(self.places) if count == places]
        return self.source.choice(fitting) if fitting else None

    def make_atom(self):
        predicate = self.source.randrange(len(self.places))
        return (predicate,) + tuple(self.source.randrange(3) for each in range(self.places[predicate]))

    def make_rule(self):
        conditions = []
        for each in range(self.source.randint(0, 4)):
            kind = self.source.choice(("if", "if", "if", "unless", "unless", "differ", "when"))
            if kind in ("if", "unless"):
                conditions.append((kind, self.make_atom()))
            elif kind == "differ":
                conditions.append((kind, tuple(self.source.sample(range(3), 2))))
            else:
                conditions.append((kind, (self.source.choice("mno"), self.source.choice(("<", "<=")),
                                          self.source.choice("mno"), self.source.choice((0, 1, 2)))))
        return (self.make_atom(), tuple(conditions))

    def atoms(self):
        return [(predicate,) + boats for predicate, places in enumerate(self.places)
                for boats in itertools.product(range(self.boats), repeat=places)]

    def book(self):
        told = ["book b"] + ["pred p%d %d" % each for each in enumerate(self.places)]
        told += [self.write_rule(each) for each in self.rules]
        told += ["valid p%d" % self.valid] if self.valid is not None else []
        return lines(*told, *["penalty p%d C" % each for each in self.penalties])

    def write_rule(self, each):
        words = ["rule", write(each[0], VARIABLES)]
        for kind, what in each[1]:
            if kind in ("if", "unless"):
                words += [kind, write(what, VARIABLES)]
            elif kind == "differ":
                words += [kind, VARIABLES[what[0]], VARIABLES[what[1]]]
            else:
                words += [kind, *what[:3]] + (["+", str(what[3])] if what[3] else [])
        return " ".join(words)

    def case(self):
        told = ["case c"] + ["boat " + BOATS[each] for each in range(self.boats)]
        told += ["fact " + write(atom, BOATS) for atom in self.facts]
        return lines(*told, *["number %s %d" % each for each in self.numbers.items()])

    def change(self):
        """Change the case somehow; the call that does it."""
        kind = self.source.choice(("fact", "fact", "fact", "number", "rule"))
        if kind == "number":
            name = self.source.choice("mno")
            self.numbers[name] = self.source.randint(0, 4)
            return number(1, self.numbers[name], name)
        if kind == "rule":
            which = self.source.randint(1, len(self.rules))
            self.idle ^= {which}
            return rule(1, which, 0 if which in self.idle else 1)
        atom = self.source.choice(self.atoms() + self.facts * 3)
        if atom in self.facts:
            self.facts.remove(atom)
            return fact(1, 0, write(atom, BOATS))
        self.facts.append(atom)
        return fact(1, 1, write(atom, BOATS))

    def opened(self, changes=8):
        """Calls that hand in the book and the case and change it, not beyond 60 facts."""
        calls = [book(self.book()), new_case(self.case())]
        while len(calls) < 2 + changes and len(self.facts) < 60:
            calls.append(self.change())
        return calls

    def penalized(self):
        """What penalties answers."""
        held = self.holding()
        valid = self.valid is None or (self.valid,) in held
        told = [1 if valid else 0]
        for boat in range(self.boats):
            got = [number for number, each in enumerate(self.penalties, start=1) if valid and (each, boat) in held]
            told += [len(got)] + got
        return told

    def edges(self):
        return [(head[0], what[0], kind == "unless") for head, conditions in self.rules
                for kind, what in conditions if kind in ("if", "unless")]

    def heights(self):
        """The predicates' layers, None if there's a ring through unless."""
        count = len(self.places)
        height = [0] * count
        for each in range(count * count + 1):
            higher = list(height)
            for head, condition, unless in self.edges():
                higher[head] = max(higher[head], height[condition] + (1 if unless else 0))
            if higher == height:
                return height
            height = higher
        return None

    def counting(self):
        """Each instance that counts: its rule, its boats, its head, its conditions if, its conditions unless."""
        for number, (head, conditions) in enumerate(self.rules, start=1):
            if number in self.idle:
                continue
            atoms = [what for kind, what in conditions if kind in ("if", "unless")] + [head]
            used = {place for atom in atoms for place in atom[1:]}
            used |= {place for kind, what in conditions if kind == "differ" for place in what}
            choices = [range(self.boats) if each in used else [None] for each in range(3)]
            for boats in itertools.product(*choices):
                if all(self.condition_counts(kind, what, boats) for kind, what in conditions):
                    yield (number, boats, put(head, boats), [put(w, boats) for k, w in conditions if k == "if"],
                           [put(w, boats) for k, w in conditions if k == "unless"])

    def condition_counts(self, kind, what, boats):
        if kind == "differ":
            return boats[what[0]] != boats[what[1]]
        if kind == "when":
            first, second = self.numbers.get(what[0]), self.numbers.get(what[2])
            if first is None or second is None:
                return False
            return first - second < what[3] if what[1] == "<" else first - second <= what[3]
        return True

    def holding(self):
        """What holds, in whatever order."""
        height = self.heights()
        held = set(self.facts)
        for layer in range(max(height) + 1):
            grown = True
            while grown:
                grown = False
                for number, boats, head, wanted, barred in self.counting():
                    if height[head[0]] == layer and head not in held and held >= set(wanted):
                        if held.isdisjoint(barred):
                            held.add(head)
                            grown = True
        return held


def write(atom, names):
    if len(atom) == 1:
        return "p%d" % atom
    return "p%d(%s)" % (atom[0], ",".join(names[each] for each in atom[1:]))


def put(atom, boats):
    return (atom[0],) + tuple(boats[each] for each in atom[1:])


def numbers_of(atom):
    """An atom as the answers tell it."""
    return tuple(([each + 1 for each in atom] + [0, 0])[:3])


def read_proof(answer):
    """Whether the atom holds, the steps and the atoms away."""
    count = answer[1]
    steps = [tuple(answer[2 + 7 * each:9 + 7 * each]) for each in range(count)]
    rest = answer[2 + 7 * count:]
    away = [tuple(rest[1 + 3 * each:4 + 3 * each]) for each in range(rest[0])]
    assert len(rest) == 1 + 3 * rest[0]
    return answer[0], steps, away


def worlds(count):
    """Made-up worlds, all without a ring through unless, most of them with facts and unless."""
    source = random.Random(20)
    made = 0
    while made < count:
        world = World(source)
        if world.heights() is not None:
            made += 1
            yield world


class Promises(unittest.TestCase):
    def test_rings(self):
        source = random.Random(7)
        rings = 0
        for each in range(400):
            world = World(source)
            height = world.heights()
            text = world.book()
            with self.subTest(text=text):
                answer = run(book(text), layers())
                if height is None:
                    rings += 1
                    self.assertEqual(answer, [[-1001 - text.count("\n")], [-1]])
                else:
                    self.assertEqual(answer, [[len(world.places), len(world.rules)], height])
        self.assertTrue(40 < rings < 360)

    def test_what_holds(self):
        for world in worlds(150):
            with self.subTest(book=world.book(), case=world.case()):
                held = world.holding()
                asked = [every(1, each + 1) for each in range(len(world.places))]
                told = run(book(world.book()), new_case(world.case()), *asked)[2:]
                for predicate, answer in enumerate(told):
                    atoms = sorted(numbers_of(atom)[1:] for atom in held if atom[0] == predicate)
                    self.assertEqual(answer, [len(atoms)] + [place for atom in atoms for place in atom])

    def test_1_the_order_of_rules_and_facts(self):
        for world in worlds(60):
            with self.subTest(book=world.book(), case=world.case()):
                asked = [holds(1, write(atom, BOATS)) for atom in world.atoms()][:90]
                before = run(book(world.book()), new_case(world.case()), *asked)
                for each in range(3):
                    told = self.reordered(world, world.book().splitlines(), "pred")
                    world.source.shuffle(world.facts)
                    case = self.reordered(world, world.case().splitlines(), "boat")
                    self.assertEqual(run(book(told), new_case(world.case()), *asked), before)
                    self.assertEqual(run(book(world.book()), new_case(case), *asked), before)
                    self.assertEqual(run(book(told), new_case(case), *asked), before)

    def reordered(self, world, told, first):
        """The lines in another order, those that tell what others use still first."""
        world.source.shuffle(told)
        return lines(*[line for line in told if line.startswith(first)],
                     *[line for line in told if not line.startswith(first)])

    def test_2_each_atom_has_a_certificate_that_is_right(self):
        for world in worlds(150):
            with self.subTest(book=world.book(), case=world.case()):
                held = world.holding()
                instances = list(world.counting())
                asked = world.source.sample(world.atoms(), min(25, len(world.atoms())))
                calls = [proof(1, write(atom, BOATS)) for atom in asked]
                told = run(book(world.book()), new_case(world.case()), *calls)[2:]
                for atom, answer in zip(asked, told):
                    value, steps, away = read_proof(answer)
                    self.assertEqual(value, 1 if atom in held else 0)
                    shown = away if value == 0 else [step[1:4] for step in steps]
                    self.assertIn(numbers_of(atom), shown)
                    self.check_steps(world, instances, steps, away)
                    self.check_away(world, instances, steps, away)

    def check_steps(self, world, instances, steps, away):
        right = {(0,) + numbers_of(atom) + (0, 0, 0): ([], []) for atom in world.facts}
        for number, boats, head, wanted, barred in instances:
            step = (number,) + numbers_of(head) + tuple(0 if each is None else each + 1 for each in boats)
            right[step] = (wanted, barred)
        before = set()
        for step in steps:
            self.assertIn(step, right)
            wanted, barred = right[step]
            self.assertTrue({numbers_of(atom) for atom in wanted} <= before)
            self.assertTrue({numbers_of(atom) for atom in barred} <= set(away))
            self.assertNotIn(step[1:4], before)
            before.add(step[1:4])

    def check_away(self, world, instances, steps, away):
        shown = {step[1:4] for step in steps}
        self.assertEqual(away, sorted(set(away)))
        for atom in away:
            self.assertNotIn(atom, {numbers_of(fact) for fact in world.facts})
            for number, boats, head, wanted, barred in instances:
                if numbers_of(head) == atom:
                    self.assertTrue(any(numbers_of(each) in away for each in wanted)
                                    or any(numbers_of(each) in shown for each in barred))

    def test_2_what_proof_answers_is_checked_as_right(self):
        for world in worlds(100):
            with self.subTest(book=world.book(), case=world.case()):
                opened = world.opened()
                held = world.holding()
                asked = world.source.sample(world.atoms(), min(40, len(world.atoms())))
                proofs = run(*opened, *[proof(1, write(atom, BOATS)) for atom in asked])[len(opened):]
                self.assertEqual([each[0] for each in proofs], [1 if atom in held else 0 for atom in asked])
                fitting = [each[1:] for each in proofs if len(each) <= 601]
                for part in portions([check(1, each) for each in fitting], opened):
                    self.assertEqual(run(*opened, *part)[len(opened):], [[0]] * len(part))

    def test_2_a_certificate_that_is_checked_as_right_shows_what_is_true(self):
        right, wrong = 0, 0
        for world in worlds(150):
            with self.subTest(book=world.book(), case=world.case()):
                opened = world.opened(3)
                held = {numbers_of(atom) for atom in world.holding()}
                for part in portions(self.made_up(world), opened, lambda each: check(1, certificate(*each))):
                    calls = [check(1, certificate(*each)) for each in part]
                    answers = run(*opened, *calls)[len(opened):]
                    for (steps, away), answer in zip(part, answers):
                        self.assertEqual(answer, [judged(world, steps, away)], (steps, away))
                        if answer == [0]:
                            right += 1
                            self.assertTrue({step[1:4] for step in steps} <= held)
                            self.assertTrue(held.isdisjoint(away))
                        else:
                            wrong += 1
        self.assertTrue(right > 500 and wrong > 500, (right, wrong))

    def made_up(self, world):
        """Certificates of all sorts: whole ones, pieces of them, and such as something was changed in."""
        source = world.source
        order = known_in_order(world)
        steps = [step_of(atom, instance) for atom, instance in order]
        away = [numbers_of(atom) for atom in world.atoms() if atom not in dict(order)]
        every_step = [step_of(instance[2], instance) for instance in world.counting()] + steps
        bases = [named_certificate(order, list(world.counting()), atom)
                 for atom in source.sample(world.atoms(), min(8, len(world.atoms())))]
        bases += [(steps, away), (steps, source.sample(away, len(away))),
                  (source.sample(steps, len(steps)), away), (every_step, away),
                  ([step for step in steps if source.random() < 0.8], away),
                  (steps, [atom for atom in away if source.random() < 0.8])]
        for base in bases:
            for changes in (0, 1, 1, 2):
                told = (list(base[0]), list(base[1]))
                for each in range(changes):
                    self.spoil(source, told, every_step, [numbers_of(atom) for atom in world.atoms()])
                if 2 + 7 * len(told[0]) + 3 * len(told[1]) <= 600:
                    yield told

    def spoil(self, source, told, every_step, atoms):
        """Change something in the steps or atoms away, perhaps for the worse."""
        part = source.choice(told)
        kind = source.choice(("out", "swap", "number", "twice", "more"))
        if kind == "more":
            part.insert(source.randint(0, len(part)), source.choice(every_step or [(1, 1, 0, 0, 0, 0, 0)])
                        if part is told[0] else source.choice(atoms))
        elif part:
            place = source.randrange(len(part))
            if kind == "out":
                part.pop(place)
            elif kind == "swap":
                other = source.randrange(len(part))
                part[place], part[other] = part[other], part[place]
            elif kind == "twice":
                part.insert(source.randint(0, len(part)), part[place])
            else:
                numbers = list(part[place])
                numbers[source.randrange(len(numbers))] = source.choice((0, 0, 1, 1, 2, 2, 3, 4, 5, 1000000))
                part[place] = tuple(numbers)

    def test_3_what_is_outside_the_support_changes_nothing(self):
        for world in worlds(60):
            with self.subTest(book=world.book(), case=world.case()):
                opened = world.opened(4)
                held = world.holding()
                known, instances = known_in_order(world), list(world.counting())
                for atom in world.source.sample(world.atoms(), min(6, len(world.atoms()))):
                    steps, away = named_certificate(known, instances, atom)
                    found = [step[1:4] for step in steps if step[0] == 0]
                    asked = write(atom, BOATS)
                    self.assertEqual(run(*opened, support(1, asked))[-1], certificate(found, away))
                    free = [each for each in world.atoms() if numbers_of(each) not in found + away]
                    self.assertTrue(self.stays(world, opened, asked, free, 1 if atom in held else 0))

    def stays(self, world, opened, asked, free, value):
        """Whether the atom holds, or doesn't, as it did, whatever of the free atoms is found or taken back."""
        calls = [*opened, holds(1, asked)]
        facts = set(world.facts)
        for each in world.source.sample(free, len(free)):
            if len(calls) < 96 and (each in facts or len(facts) < 60):
                facts ^= {each}
                calls += [fact(1, 1 if each in facts else 0, write(each, BOATS)), holds(1, asked)]
        told = run(*calls)[len(opened):]
        return set(map(tuple, told[::2])) == {(value,)} and all(answer[0] >= 0 for answer in told)

    def test_penalties_and_what_they_would_be(self):
        for world in worlds(100):
            with self.subTest(book=world.book(), case=world.case()):
                opened = world.opened()
                calls, expected = [penalties(1)], [world.penalized()]
                facts = list(world.facts)
                for atom in world.source.sample(world.atoms(), min(12, len(world.atoms()))):
                    for value in (0, 1):
                        world.facts = [each for each in facts if each != atom] + [atom] * value
                        calls.append(suppose(1, value, write(atom, BOATS)))
                        expected.append(world.penalized())
                world.facts = facts
                calls += [penalties(1), written(1)]
                told = run(*opened, *calls)[len(opened):]
                self.assertEqual(told[:-1], expected + [world.penalized()])
                self.assertEqual(text(told[-1]), world.case())

    def test_decisions_stand_as_long_as_the_penalties_are_the_same(self):
        stood = set()
        for world in worlds(60):
            with self.subTest(book=world.book(), case=world.case()):
                calls, expected = [book(world.book()), new_case(world.case())], [None, None]
                kept = []
                while len(kept) < 5 and len(world.facts) < 60:
                    kept.append(world.penalized())
                    calls.append(decide(1))
                    expected.append([len(kept)])
                    calls.append(world.change())
                    expected.append(None)
                    for which, answer in enumerate(kept, start=1):
                        calls += [stands(which), decision(which)]
                        same = 1 if answer == world.penalized() else 0
                        stood.add(same)
                        expected += [[same], [1] + answer]
                told = run(*calls)
                self.assertEqual([answer for answer, each in zip(told, expected) if each is not None],
                                 [each for each in expected if each is not None])
        self.assertEqual(stood, {0, 1})

    def test_the_certificate_is_the_one_that_the_document_names(self):
        for world in worlds(150):
            with self.subTest(book=world.book(), case=world.case()):
                asked = world.source.sample(world.atoms(), min(25, len(world.atoms())))
                calls = [proof(1, write(atom, BOATS)) for atom in asked]
                told = run(book(world.book()), new_case(world.case()), *calls)[2:]
                order, instances = known_in_order(world), list(world.counting())
                for atom, answer in zip(asked, told):
                    self.assertEqual(read_proof(answer)[1:], named_certificate(order, instances, atom))

    def test_4_what_is_done_in_one_case_touches_no_other(self):
        for world in worlds(30):
            with self.subTest(book=world.book(), case=world.case()):
                asked = [every(2, each + 1) for each in range(len(world.places))]
                asked += [proof(2, write(atom, BOATS)) for atom in world.atoms()[:20]]
                asked += [penalties(2), stands(1), decision(1), written(2)]
                opened = [book(world.book()), new_case(world.case()), new_case(world.case()), decide(2)]
                changes = [[6, 1, each + 1, 0] for each in range(len(world.rules))]
                changes += [[5, 1, 4, 1, ord(name)] for name in "mno"]
                for atom in world.atoms()[:20]:
                    told = list(write(atom, BOATS).encode())
                    changes.append([4, 1, 0 if atom in world.facts else 1, len(told)] + told)
                changes.append(decide(1))
                before = run(*opened, *asked)[4:]
                after = run(*opened, *changes, *asked)
                self.assertTrue(all(answer[0] >= 0 for answer in after[4:4 + len(changes)]))
                self.assertEqual(after[4 + len(changes):], before)


def known_in_order(world):
    """What is known, in order: pairs of an atom and its instance, None for a fact."""
    order = [(atom, None) for atom in world.facts]
    height = world.heights()
    for layer in range(max(height) + 1):
        while True:
            known = {atom for atom, instance in order}
            fresh = []
            for instance in world.counting():
                head, wanted, barred = instance[2:]
                if height[head[0]] == layer and known >= set(wanted) and known.isdisjoint(barred):
                    if head not in known and head not in [atom for atom, before in fresh]:
                        fresh.append((head, instance))
            if not fresh:
                break
            order += fresh
    return order


def step_of(atom, instance):
    """The step of an atom by an instance, None for a fact."""
    if instance is None:
        return (0,) + numbers_of(atom) + (0, 0, 0)
    return (instance[0],) + numbers_of(atom) + tuple(0 if boat is None else boat + 1 for boat in instance[1])


def judged(world, steps, away):
    """Which step or atom away is the first that isn't right, 0 if all are."""
    facts = {numbers_of(atom) for atom in world.facts}
    instances = [(step_of(each[2], each), numbers_of(each[2]), {numbers_of(atom) for atom in each[3]},
                  {numbers_of(atom) for atom in each[4]}) for each in world.counting()]
    for place, step in enumerate(steps):
        before = {each[1:4] for each in steps[:place]}
        by_fact = step[0] == 0 and step[1:4] in facts and step[4:] == (0, 0, 0)
        by_rule = any(each == step and wanted <= before and barred <= set(away)
                      for each, head, wanted, barred in instances)
        if not by_fact and not by_rule:
            return place + 1
    shown = {each[1:4] for each in steps}
    for place, atom in enumerate(away, start=len(steps) + 1):
        stopped = all(wanted & set(away) or barred & shown
                      for each, head, wanted, barred in instances if head == atom)
        if atom in facts or not stopped:
            return place
    return 0


def portions(pieces, opened, call=lambda piece: piece):
    """The pieces in portions that may be handed in behind what's opened, by the calls that are made of them."""
    room = 16000 - sum(map(len, opened))
    portion, size = [], 0
    for piece in pieces:
        if len(portion) == 100 - len(opened) or size + len(call(piece)) > room:
            yield portion
            portion, size = [], 0
        portion.append(piece)
        size += len(call(piece))
    if portion:
        yield portion


def named_certificate(order, instances, atom):
    known = dict(order)
    needed, away = set(), set()
    (needed if atom in known else away).add(atom)
    before = None
    while before != (len(needed), len(away)):
        before = (len(needed), len(away))
        for each in list(needed):
            if known[each] is not None:
                needed.update(known[each][3])
                away.update(known[each][4])
        for instance in instances:
            if instance[2] in away:
                missing = [each for each in instance[3] if each not in known]
                if missing:
                    away.add(missing[0])
                else:
                    needed.add([each for each in instance[4] if each in known][0])
    steps = [step_of(each, instance) for each, instance in order if each in needed]
    return steps, sorted(numbers_of(each) for each in away)


if __name__ == "__main__":
    unittest.main()
