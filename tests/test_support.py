"""On which facts and atoms away a finding rests."""

import unittest

from tests.helper import (BOOK, CASE, book, certificate, fact, last, lines, new_case, number, proof, rule, run,
                          support)

NAMES = "abcdefgh"


class WithoutPlaces(unittest.TestCase):
    """Predicates a to h, numbered from 1, without places."""

    def rests(self, rules, facts, atom, found, away, more=()):
        preds = ["pred %s 0" % name for name in NAMES]
        calls = [book(lines("book b", *preds, *rules)),
                 new_case(lines("case c", "boat A", *["fact " + name for name in facts])), *more, support(1, atom)]
        self.assertEqual(last(*calls), certificate([(each, 0, 0) for each in found], [(each, 0, 0) for each in away]))

    def test_a_fact(self):
        self.rests([], "cab", "a", [1], [])
        self.rests(["rule a"], "a", "a", [1], [])

    def test_a_fact_that_is_a_head_too(self):
        self.rests(["rule a if b unless c"], "ba", "a", [1], [])
        self.rests(["rule a if b", "rule d if a unless c"], "ba", "d", [1], [3])
        self.rests(["rule a if b", "rule d if a unless c"], "b", "d", [2], [3])

    def test_nothing_is_known_of_it(self):
        self.rests([], "bc", "a", [], [1])

    def test_by_a_rule_without_conditions(self):
        self.rests(["rule a"], "bc", "a", [], [])

    def test_by_rules(self):
        self.rests(["rule a if b unless c"], "b", "a", [2], [3])
        self.rests(["rule a if b if d", "rule b if c", "rule d unless e"], "hcg", "a", [3], [5])

    def test_facts_in_the_order_of_the_case(self):
        self.rests(["rule a if b if c if d"], "dcb", "a", [4, 3, 2], [])
        self.rests(["rule a if b if c if d"], "bhdgc", "a", [2, 4, 3], [])
        self.rests(["rule a if b if c if d"], "bcd", "a", [3, 4, 2], [], more=[fact(1, 0, "b"), fact(1, 1, "b")])

    def test_a_fact_is_told_once(self):
        self.rests(["rule a if b if c", "rule c if b", "rule d if a if b"], "b", "d", [2], [])

    def test_that_does_not_hold(self):
        self.rests(["rule a if b if c"], "b", "a", [], [1, 3])
        self.rests(["rule a if b unless c"], "cb", "a", [3], [1])
        self.rests(["rule a if b unless c", "rule c if d if e", "rule a if f"], "edb", "a", [5, 4], [1, 6])

    def test_atoms_away_in_order(self):
        self.rests(["rule h if g", "rule g if a", "rule g if d", "rule a if c"], "", "h", [], [1, 3, 4, 7, 8])
        self.rests(["rule a unless h unless b unless e"], "", "a", [], [2, 5, 8])

    def test_steps_by_rules_are_left_out(self):
        self.rests(["rule a unless b", "rule b unless c", "rule c unless d"], "", "a", [], [2, 4])
        self.rests(["rule a unless b", "rule b unless c", "rule c unless d"], "d", "a", [4], [1, 3])

    def test_a_rule_that_does_not_count_and_a_when(self):
        rules = ["rule a if b", "rule a if c when x < y"]
        self.rests(rules, "bc", "a", [2], [])
        self.rests(rules, "bc", "a", [], [1], more=[rule(1, 1, 0)])
        self.rests(rules, "bc", "a", [3], [], more=[rule(1, 1, 0), number(1, 1, "x"), number(1, 2, "y")])
        self.rests(rules, "b", "a", [], [1, 3], more=[rule(1, 1, 0), number(1, 1, "x"), number(1, 2, "y")])


class WithPlaces(unittest.TestCase):
    def test_the_ordinary_case(self):
        calls = [book(BOOK), new_case(CASE)]
        self.assertEqual(last(*calls, support(1, "broke(Ada)")), [3, 1, 1, 0, 2, 2, 0, 3, 1, 2, 1, 4, 1, 0])
        self.assertEqual(last(*calls, support(1, "must(Ada,Bo)")), [3, 1, 1, 0, 2, 2, 0, 3, 1, 2, 0])
        self.assertEqual(last(*calls, support(1, "meets(Ada,Bo)")), [1, 3, 1, 2, 0])
        self.assertEqual(last(*calls, support(1, "heard")), [0, 0])
        self.assertEqual(last(*calls, number(1, 111, "filed"), support(1, "heard")), [0, 1, 7, 0, 0])
        self.assertEqual(last(*calls, support(1, "broke(Bo)")), [0, 4, 1, 2, 0, 5, 2, 1, 5, 2, 2, 6, 2, 0])
        self.assertEqual(last(*calls, fact(1, 1, "clear(Ada)"), support(1, "broke(Ada)")),
                         [1, 4, 1, 0, 2, 5, 1, 1, 6, 1, 0])

    def test_it_is_what_the_certificate_says(self):
        calls = [book(BOOK), new_case(CASE)]
        for atom in ("broke(Ada)", "broke(Bo)", "must(Bo,Ada)", "must(Ada,Ada)", "port(Ada)", "port(Bo)", "heard"):
            with self.subTest(atom=atom):
                answer = last(*calls, proof(1, atom))
                end = 2 + 7 * answer[1]
                steps = [answer[place:place + 7] for place in range(2, end, 7)]
                found = [step[1:4] for step in steps if step[0] == 0]
                away = [answer[place:place + 3] for place in range(end + 1, len(answer), 3)]
                self.assertEqual(last(*calls, support(1, atom)), certificate(found, away))

    def test_each_case_its_own(self):
        told = run(book(), new_case(), new_case(), fact(1, 0, "port(Ada)"), support(1, "port(Ada)"),
                   support(2, "port(Ada)"))
        self.assertEqual(told[4:], [[0, 1, 1, 1, 0], [1, 1, 1, 0, 0]])


if __name__ == "__main__":
    unittest.main()
