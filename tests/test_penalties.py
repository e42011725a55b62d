"""Penalties, and what they would be if an atom were a fact or weren't."""

import unittest

from tests.helper import (BOOK, CASE, book, decide, every, fact, joined, last, layers, lines, new_case, number,
                          penalties, printed, proof, rule, run, stands, support, suppose, written)

PREDS = ("book b", "pred heard 0", "pred late 0", "pred hit 1", "pred port 1", "pred broke 1", "pred near 2")
LINES = ("penalty broke DSQ", "penalty hit TWO", "penalty broke ONE")
BOATS = ("case c", "boat Cy", "boat Ada", "boat Bo")


class Told(unittest.TestCase):
    def told(self, rules, case, answer, more=(), boats=BOATS):
        calls = [book(lines(*PREDS, *rules)), new_case(lines(*boats, *case)), *more, penalties(1)]
        self.assertEqual(last(*calls), answer)

    def test_the_ordinary_case(self):
        calls = [book(BOOK), new_case(CASE)]
        self.assertEqual(last(*calls, penalties(1)), [1, 1, 1, 0])
        self.assertEqual(last(*calls, fact(1, 1, "clear(Ada)"), penalties(1)), [1, 0, 0])
        self.assertEqual(last(*calls, fact(1, 1, "broke(Bo)"), penalties(1)), [1, 1, 1, 1, 1])
        self.assertEqual(last(*calls, number(1, 111, "filed"), penalties(1)), [0, 0, 0])
        self.assertEqual(last(*calls, rule(1, 3, 0), penalties(1)), [0, 0, 0])
        self.assertEqual(last(*calls, rule(1, 2, 0), penalties(1)), [1, 0, 0])

    def test_no_line_valid(self):
        self.told(LINES, ["fact hit(Bo)"], [1, 0, 0, 1, 2])
        self.told(LINES, [], [1, 0, 0, 0])

    def test_valid_by_a_fact(self):
        self.told(("valid heard",) + LINES, ["fact heard", "fact hit(Bo)"], [1, 0, 0, 1, 2])
        self.told(("valid heard",) + LINES, ["fact late", "fact hit(Bo)"], [0, 0, 0, 0])
        self.told(("valid late",) + LINES, ["fact late", "fact hit(Bo)"], [1, 0, 0, 1, 2])
        self.told(("valid late",) + LINES, ["fact heard", "fact hit(Bo)"], [0, 0, 0, 0])

    def test_valid_by_a_rule(self):
        rules = ("rule heard unless late", "valid heard") + LINES
        self.told(rules, ["fact hit(Bo)"], [1, 0, 0, 1, 2])
        self.told(rules, ["fact hit(Bo)", "fact late"], [0, 0, 0, 0])
        self.told(rules, ["fact hit(Bo)"], [0, 0, 0, 0], more=[rule(1, 1, 0)])

    def test_a_valid_case_without_penalties(self):
        self.told(("valid heard",), ["fact heard", "fact hit(Bo)"], [1, 0, 0, 0])
        self.told(("valid heard",), [], [0, 0, 0, 0])
        self.told((), ["fact hit(Bo)"], [1, 0, 0, 0])
        self.told(("valid heard",) + LINES, ["fact heard"], [1, 0, 0, 0])

    def test_two_lines_of_one_predicate(self):
        self.told(LINES, ["fact broke(Ada)"], [1, 0, 2, 1, 3, 0])
        self.told(("penalty hit A", "penalty hit A"), ["fact hit(Cy)"], [1, 2, 1, 2, 0, 0])

    def test_several_penalties_of_one_boat(self):
        self.told(LINES, ["fact hit(Ada)", "fact broke(Ada)"], [1, 0, 3, 1, 2, 3, 0])
        self.told(LINES, ["fact hit(Ada)", "fact broke(Cy)", "fact hit(Bo)", "fact broke(Bo)"],
                  [1, 2, 1, 3, 1, 2, 3, 1, 2, 3])

    def test_boats_in_their_order(self):
        each = {"Cy": [0], "Ada": [1, 2], "Bo": [2, 1, 3]}
        for boats in (("Cy", "Ada", "Bo"), ("Ada", "Bo", "Cy"), ("Bo", "Cy", "Ada")):
            with self.subTest(boats=boats):
                expected = [1] + joined([each[boat] for boat in boats])
                self.told(LINES, ["fact broke(Bo)", "fact hit(Ada)"], expected,
                          boats=["case c"] + ["boat " + boat for boat in boats])

    def test_by_the_lines_not_the_predicates(self):
        rules = ["penalty port A", "penalty broke B", "penalty hit C"]
        self.told(rules, ["fact hit(Ada)", "fact port(Ada)", "fact broke(Bo)"], [1, 0, 2, 1, 3, 1, 2])

    def test_by_rules(self):
        rules = ["rule broke(X) if near(X,Y) unless port(Y) differ X Y"]
        facts = ["fact near(Ada,Bo)", "fact near(Bo,Bo)", "fact near(Cy,Ada)", "fact port(Ada)"]
        self.told(rules + list(LINES), facts, [1, 0, 2, 1, 3, 0])
        self.told(rules + list(LINES), facts, [1, 0, 0, 0], more=[fact(1, 1, "port(Bo)")])
        self.told(rules + list(LINES), facts, [1, 2, 1, 3, 2, 1, 3, 0], more=[fact(1, 0, "port(Ada)")])

    def test_one_boat_and_four(self):
        self.told(LINES, ["fact hit(A)"], [1, 1, 2], boats=("case c", "boat A"))
        self.told(LINES, [], [1, 0], boats=("case c", "boat A"))
        six = ["penalty hit P%d" % each for each in range(6)]
        self.told(six, ["fact hit(%s)" % boat for boat in "ABCD"], [1] + [6, 1, 2, 3, 4, 5, 6] * 4,
                  boats=["case c"] + ["boat " + boat for boat in "ABCD"])

    def test_each_case_its_own(self):
        told = run(book(), new_case(), new_case(), fact(1, 1, "clear(Ada)"), number(2, 1000, "filed"), penalties(1),
                   penalties(2))
        self.assertEqual(told[5:], [[1, 0, 0], [0, 0, 0]])


class Suppose(unittest.TestCase):
    asked = [printed(), layers(), written(1), penalties(1), *[every(1, each) for each in range(1, 8)], stands(1),
             proof(1, "broke(Ada)"), support(1, "broke(Bo)")]

    def supposed(self, value, atom, answer, more=()):
        """What suppose answers, and that all is afterwards as it was before."""
        calls = [book(BOOK), new_case(CASE), *more, decide(1)]
        before = run(*calls, *self.asked)[len(calls):]
        told = run(*calls, suppose(1, value, atom), *self.asked)[len(calls):]
        self.assertEqual(told[0], answer)
        self.assertEqual(told[1:], before)

    def test_an_atom_that_is_no_fact(self):
        self.supposed(1, "clear(Ada)", [1, 0, 0])
        self.supposed(0, "clear(Ada)", [1, 1, 1, 0])
        self.supposed(1, "broke(Bo)", [1, 1, 1, 1, 1])
        self.supposed(0, "broke(Bo)", [1, 1, 1, 0])
        self.supposed(1, "clear(Bo)", [1, 1, 1, 0])

    def test_a_fact(self):
        self.supposed(0, "port(Ada)", [1, 0, 0])
        self.supposed(1, "port(Ada)", [1, 1, 1, 0])
        self.supposed(0, "meets(Ada,Bo)", [1, 0, 0])
        self.supposed(1, "meets(Ada,Bo)", [1, 1, 1, 0])

    def test_what_holds_by_a_rule_holds_still(self):
        self.supposed(0, "broke(Ada)", [1, 1, 1, 0])
        self.supposed(1, "broke(Ada)", [1, 1, 1, 0])
        self.supposed(0, "heard", [1, 1, 1, 0])

    def test_a_fact_that_a_rule_gives_too(self):
        self.supposed(0, "broke(Ada)", [1, 1, 1, 0], more=[fact(1, 1, "broke(Ada)")])
        self.supposed(0, "broke(Ada)", [1, 0, 0], more=[fact(1, 1, "broke(Ada)"), rule(1, 2, 0)])

    def test_validity(self):
        late = [number(1, 1000, "filed")]
        self.supposed(1, "heard", [1, 1, 1, 0], more=late)
        self.supposed(0, "heard", [0, 0, 0], more=late)
        self.supposed(0, "heard", [0, 0, 0], more=late + [fact(1, 1, "heard")])
        self.supposed(1, "clear(Ada)", [0, 0, 0], more=late)

    def test_rules_that_do_not_count_and_numbers_told_anew(self):
        self.supposed(1, "broke(Bo)", [1, 0, 1, 1], more=[rule(1, 1, 0)])
        self.supposed(1, "must(Bo,Ada)", [1, 0, 1, 1], more=[rule(1, 1, 0)])
        self.supposed(1, "must(Bo,Ada)", [1, 0, 0], more=[rule(1, 2, 0)])
        self.supposed(1, "broke(Bo)", [1, 1, 1, 1, 1], more=[number(1, 110, "filed")])
        self.supposed(1, "broke(Bo)", [0, 0, 0], more=[number(1, 111, "filed")])

    def test_it_is_what_penalties_answers_once_it_is_so(self):
        calls = [book(BOOK), new_case(CASE)]
        for value, atom in ((1, "clear(Ada)"), (1, "broke(Bo)"), (0, "port(Ada)"), (0, "stbd(Bo)"), (1, "must(Bo,Bo)"),
                            (1, "heard"), (1, "port(Bo)")):
            with self.subTest(value=value, atom=atom):
                after = last(*calls, fact(1, value, atom), penalties(1))
                self.assertEqual(last(*calls, suppose(1, value, atom)), after)

    def test_a_case_of_60_facts(self):
        preds = ["pred p%d 2" % each for each in range(4)] + ["pred hit 1"]
        boats = ["boat " + each for each in "abcd"]
        facts = ["fact p%d(%s,%s)" % (one, two, three) for one in range(4) for two in "abcd" for three in "abcd"][:60]
        told = lines("case c", *boats, *facts)
        rules = ["rule hit(X) unless p0(X,X)", "rule hit(X) if p3(X,X)"]
        calls = [book(lines("book b", *preds, *rules, "penalty hit A")), new_case(told)]
        before = [1, 1, 1, 1, 1, 1, 1, 0]
        after = run(*calls, penalties(1), suppose(1, 1, "p3(d,d)"), suppose(1, 1, "hit(d)"), suppose(1, 0, "p3(a,a)"),
                    suppose(1, 1, "p3(a,a)"), suppose(1, 0, "p0(d,d)"), suppose(1, 0, "p3(d,d)"),
                    fact(1, 1, "p3(d,d)"), penalties(1), written(1))[2:]
        self.assertEqual(after, [before, [1, 1, 1, 1, 1, 1, 1, 1, 1], [1, 1, 1, 1, 1, 1, 1, 1, 1],
                                 [1, 0, 1, 1, 1, 1, 0], before, [1, 1, 1, 1, 1, 1, 1, 1, 1], before, [-4], before,
                                 list(told.encode())])

    def test_one_behind_another_they_do_not_add_up(self):
        told = run(book(), new_case(), suppose(1, 0, "port(Ada)"), suppose(1, 1, "broke(Bo)"),
                   suppose(1, 1, "clear(Ada)"), suppose(1, 1, "clear(Bo)"), penalties(1), written(1))
        self.assertEqual(told[2:], [[1, 0, 0], [1, 1, 1, 1, 1], [1, 0, 0], [1, 1, 1, 0], [1, 1, 1, 0],
                                    list(CASE.encode())])

    def test_the_case_asked_for(self):
        told = run(book(), new_case(), new_case("case d\nboat Z\nnumber filed 1\nnumber finish 1\n"),
                   suppose(2, 1, "broke(Z)"), suppose(1, 1, "broke(Bo)"), penalties(2), penalties(1))
        self.assertEqual(told[3:], [[1, 1, 1], [1, 1, 1, 1, 1], [1, 0], [1, 1, 1, 0]])


if __name__ == "__main__":
    unittest.main()
