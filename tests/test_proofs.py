"""Certificates as proof tells them."""

import unittest

from tests.helper import (BOOK, CASE, book, certificate, fact, found, last, lines, new_case, number, proof, rule,
                          run)

NAMES = "abcdefgh"


def told(value, steps, away):
    """What proof answers by this certificate."""
    return [value] + certificate(steps, away)


def nil(predicate):
    return (predicate, 0, 0)


class WithoutPlaces(unittest.TestCase):
    """Predicates a to h, numbered from 1, without places."""

    def proved(self, rules, facts, atom, value, steps, away, more=()):
        preds = ["pred %s 0" % name for name in NAMES]
        calls = [book(lines("book b", *preds, *rules)),
                 new_case(lines("case c", "boat A", *["fact " + name for name in facts])), *more, proof(1, atom)]
        whole = [(number, predicate, 0, 0, 0, 0, 0) for number, predicate in steps]
        self.assertEqual(last(*calls), told(value, whole, [nil(predicate) for predicate in away]))

    def test_a_fact(self):
        self.proved([], "cab", "a", 1, [(0, 1)], [])

    def test_a_fact_that_is_a_head_too(self):
        self.proved(["rule a if b unless c"], "ba", "a", 1, [(0, 1)], [])
        self.proved(["rule a if b", "rule c if a"], "ba", "c", 1, [(0, 1), (2, 3)], [])

    def test_nothing_is_known_of_it(self):
        self.proved([], "bc", "a", 0, [], [1])
        self.proved(["rule a if b"], "c", "d", 0, [], [4])

    def test_by_a_rule(self):
        self.proved(["rule a"], "", "a", 1, [(1, 1)], [])
        self.proved(["rule a if b unless c"], "b", "a", 1, [(0, 2), (1, 1)], [3])

    def test_steps_in_the_order_of_the_facts(self):
        self.proved(["rule a if b if c if d"], "dcb", "a", 1, [(0, 4), (0, 3), (0, 2), (1, 1)], [])

    def test_a_condition_twice_is_one_step(self):
        self.proved(["rule a if b if b unless c unless c"], "b", "a", 1, [(0, 2), (1, 1)], [3])

    def test_what_is_not_needed_stays_out(self):
        self.proved(["rule a if b", "rule c if b", "rule d unless e", "rule a if f"], "bfgh", "a", 1,
                    [(0, 2), (1, 1)], [])

    def test_rounds(self):
        rules = ["rule h if b if c if d", "rule b if a", "rule c if b", "rule d if a"]
        self.proved(rules, "a", "h", 1, [(0, 1), (2, 2), (4, 4), (3, 3), (1, 8)], [])

    def test_the_round_counts_ahead_of_the_rules_order(self):
        self.proved(["rule a if b", "rule a if c", "rule b if c"], "c", "a", 1, [(0, 3), (2, 1)], [])
        self.proved(["rule b if c", "rule a if b", "rule a if d if c"], "cd", "a", 1, [(0, 3), (0, 4), (3, 1)], [])

    def test_within_a_round_the_first_rule_counts(self):
        self.proved(["rule a if b", "rule a if c"], "cb", "a", 1, [(0, 2), (1, 1)], [])
        self.proved(["rule a if d", "rule a if c", "rule a if b"], "bc", "a", 1, [(0, 3), (2, 1)], [])

    def test_a_layer_comes_ahead_of_the_rules_order(self):
        rules = ["rule b unless c", "rule d if a", "rule h if b if e", "rule e if d"]
        self.proved(rules, "a", "h", 1, [(0, 1), (2, 4), (4, 5), (1, 2), (3, 8)], [3])

    def test_what_a_lower_layer_knows_counts_as_known_from_the_first_round_on(self):
        rules = ["rule d unless c", "rule e unless c if b", "rule h if e if d", "rule b if a"]
        self.proved(rules, "a", "h", 1, [(0, 1), (4, 2), (1, 4), (2, 5), (3, 8)], [3])

    def test_layers_are_those_of_the_book_even_if_a_rule_does_not_count(self):
        rules = ["rule b unless c", "rule b if a", "rule d if a", "rule h if b if d if e", "rule e if d"]
        steps = [(0, 1), (3, 4), (5, 5), (2, 2), (4, 8)]
        self.proved(rules, "a", "h", 1, steps, [], more=[rule(1, 1, 0)])

    def test_away_by_the_first_condition_that_does_not_hold(self):
        self.proved(["rule a if b if c if d"], "b", "a", 0, [], [1, 3])
        self.proved(["rule a if d if c"], "", "a", 0, [], [1, 4])

    def test_a_condition_if_comes_ahead_of_a_condition_unless(self):
        self.proved(["rule a unless b if c"], "b", "a", 0, [], [1, 3])
        self.proved(["rule a unless b if c"], "bc", "a", 0, [(0, 2)], [1])

    def test_away_by_the_first_condition_unless_that_holds(self):
        self.proved(["rule a if b unless c unless d unless e"], "bed", "a", 0, [(0, 4)], [1])
        self.proved(["rule a unless e unless d"], "de", "a", 0, [(0, 5)], [1])

    def test_each_rule_of_the_head_is_answered(self):
        self.proved(["rule a if b", "rule a unless c", "rule a if d unless c", "rule a if e"], "c", "a", 0,
                    [(0, 3)], [1, 2, 4, 5])

    def test_away_over_a_ring_of_if(self):
        self.proved(["rule a if b", "rule b if c", "rule c if a"], "", "b", 0, [], [1, 2, 3])
        self.proved(["rule a if a"], "", "a", 0, [], [1])

    def test_away_in_order(self):
        self.proved(["rule h if g", "rule g if a", "rule g if d", "rule a if c"], "", "h", 0, [], [1, 3, 4, 7, 8])

    def test_over_several_layers(self):
        rules = ["rule a unless b", "rule b unless c", "rule c unless d"]
        self.proved(rules, "", "a", 1, [(3, 3), (1, 1)], [2, 4])
        self.proved(rules, "d", "a", 0, [(0, 4), (2, 2)], [1, 3])
        self.proved(rules, "c", "a", 1, [(0, 3), (1, 1)], [2])
        self.proved(rules, "db", "a", 0, [(0, 2)], [1])

    def test_a_step_and_an_atom_away_bring_their_own_needs(self):
        rules = ["rule a unless b if c", "rule c if d", "rule b if e", "rule b unless f", "rule f if g unless h"]
        self.proved(rules, "dg", "a", 1, [(0, 4), (0, 7), (2, 3), (5, 6), (1, 1)], [2, 5, 8])

    def test_a_rule_that_does_not_count(self):
        rules = ["rule a if b", "rule a if c"]
        self.proved(rules, "bc", "a", 1, [(0, 3), (2, 1)], [], more=[rule(1, 1, 0)])
        self.proved(rules, "b", "a", 0, [], [1, 3], more=[rule(1, 1, 0)])
        self.proved(rules, "bc", "a", 0, [], [1], more=[rule(1, 1, 0), rule(1, 2, 0)])
        self.proved(rules, "bc", "a", 1, [(0, 2), (1, 1)], [], more=[rule(1, 1, 0), rule(1, 1, 1)])

    def test_a_when_that_does_not_hold(self):
        rules = ["rule a if b when x < y", "rule a if c"]
        self.proved(rules, "b", "a", 0, [], [1, 3])
        self.proved(rules, "b", "a", 0, [], [1, 3], more=[number(1, 5, "x"), number(1, 5, "y")])
        self.proved(rules, "b", "a", 1, [(0, 2), (1, 1)], [], more=[number(1, 5, "x"), number(1, 6, "y")])
        self.proved(rules, "", "a", 0, [], [1, 2, 3], more=[number(1, 5, "x"), number(1, 6, "y")])

    def test_a_fact_found_later(self):
        rules = ["rule a if b if c"]
        self.proved(rules, "c", "a", 1, [(0, 3), (0, 2), (1, 1)], [], more=[fact(1, 1, "b")])
        self.proved(rules, "bc", "a", 1, [(0, 3), (0, 2), (1, 1)], [], more=[fact(1, 0, "b"), fact(1, 1, "b")])
        self.proved(rules, "bc", "a", 0, [], [1, 2], more=[fact(1, 0, "b")])
        self.proved(rules, "bc", "a", 1, [(0, 1)], [], more=[fact(1, 1, "a")])


class WithPlaces(unittest.TestCase):
    preds = ("book b", "pred p 1", "pred q 2", "pred r 1", "pred s 2", "pred t 0")

    def proved(self, rules, case, atom, value, steps, away, boats="AB"):
        calls = [book(lines(*self.preds, *rules)),
                 new_case(lines("case c", *["boat " + boat for boat in boats], *case)), proof(1, atom)]
        self.assertEqual(last(*calls), told(value, steps, away))

    def test_the_ordinary_case(self):
        steps = [found(1, 1), found(2, 2), found(3, 1, 2), (1, 5, 1, 2, 1, 2, 0), (2, 6, 1, 0, 1, 2, 0)]
        self.assertEqual(last(book(BOOK), new_case(CASE), proof(1, "broke(Ada)")), told(1, steps, [(4, 1, 0)]))
        away = [(1, 2, 0), (5, 2, 1), (5, 2, 2), (6, 2, 0)]
        self.assertEqual(last(book(BOOK), new_case(CASE), proof(1, "broke(Bo)")), told(0, [], away))
        self.assertEqual(last(book(BOOK), new_case(CASE), fact(1, 1, "clear(Ada)"), proof(1, "broke(Ada)")),
                         told(0, [found(4, 1)], [(5, 1, 1), (6, 1, 0)]))

    def test_boats_of_the_variables_that_the_rule_has(self):
        self.proved(["rule t if q(Z,Y)"], ["fact q(B,A)"], "t", 1, [found(2, 2, 1), (1, 5, 0, 0, 0, 1, 2)], [])
        self.proved(["rule r(Y) if p(Y)"], ["fact p(B)"], "r(B)", 1, [found(1, 2), (1, 3, 2, 0, 0, 2, 0)], [])
        self.proved(["rule r(Z) differ X Z"], [], "r(A)", 1, [(1, 3, 1, 0, 2, 0, 1)], [])
        self.proved(["rule s(Y,X)"], [], "s(A,B)", 1, [(1, 4, 1, 2, 2, 1, 0)], [])
        self.proved(["rule r(X) unless p(Z)"], ["fact p(A)"], "r(A)", 1, [(1, 3, 1, 0, 1, 0, 2)], [(1, 2, 0)])

    def test_of_one_rule_the_first_instance_counts(self):
        self.proved(["rule t if p(X)"], ["fact p(B)", "fact p(A)"], "t", 1, [found(1, 1), (1, 5, 0, 0, 1, 0, 0)], [])
        self.proved(["rule t if q(Y,X)"], ["fact q(A,B)", "fact q(B,A)"], "t", 1,
                    [found(2, 2, 1), (1, 5, 0, 0, 1, 2, 0)], [])
        self.proved(["rule t if q(Z,Y)"], ["fact q(A,B)", "fact q(B,A)"], "t", 1,
                    [found(2, 2, 1), (1, 5, 0, 0, 0, 1, 2)], [])
        self.proved(["rule t if q(X,Z)"], ["fact q(B,A)", "fact q(A,B)", "fact q(A,A)"], "t", 1,
                    [found(2, 1, 1), (1, 5, 0, 0, 1, 0, 1)], [])

    def test_of_one_round_the_instances_order_counts(self):
        rules = ["rule r(Y) if q(X,Y)", "rule t if r(X) if r(Y) differ X Y"]
        facts = ["fact q(B,A)", "fact q(A,B)"]
        self.proved(rules, facts, "t", 1, [found(2, 2, 1), found(2, 1, 2), (1, 3, 2, 0, 1, 2, 0), (1, 3, 1, 0, 2, 1, 0),
                                           (2, 5, 0, 0, 1, 2, 0)], [])

    def test_over_several_rounds(self):
        rules = ["rule s(X,Z) if s(X,Y) if q(Y,Z)", "rule s(X,Y) if q(X,Y)"]
        facts = ["fact q(C,D)", "fact q(B,C)", "fact q(A,B)"]
        self.proved(rules, facts, "s(A,D)", 1,
                    [found(2, 3, 4), found(2, 2, 3), found(2, 1, 2), (2, 4, 1, 2, 1, 2, 0), (1, 4, 1, 3, 1, 2, 3),
                     (1, 4, 1, 4, 1, 3, 4)], [], boats="ABCD")

    def test_away_for_each_instance(self):
        self.proved(["rule t if p(X)"], [], "t", 0, [], [(1, 1, 0), (1, 2, 0), (5, 0, 0)])
        self.proved(["rule t if p(X) if r(Y)"], ["fact p(A)"], "t", 0, [],
                    [(1, 2, 0), (3, 1, 0), (3, 2, 0), (5, 0, 0)])
        self.proved(["rule t unless p(X)"], ["fact p(B)", "fact p(A)"], "t", 0, [found(1, 2), found(1, 1)], [(5, 0, 0)])

    def test_away_by_first_then_second_place(self):
        self.proved(["rule t if q(Y,X) differ X Y"], [], "t", 0, [], [(2, 1, 2), (2, 1, 3), (2, 2, 1), (2, 2, 3),
                                                                   (2, 3, 1), (2, 3, 2), (5, 0, 0)], boats="ABC")

    def test_differ_leaves_instances_out(self):
        self.proved(["rule r(X) if q(X,Y) differ X Y"], [], "r(A)", 0, [], [(2, 1, 2), (3, 1, 0)])
        self.proved(["rule r(X) if q(X,Y) differ X Y"], ["fact q(A,A)"], "r(A)", 0, [], [(2, 1, 2), (3, 1, 0)])
        self.proved(["rule r(X) if q(X,Y) differ X Y"], [], "r(A)", 0, [], [(3, 1, 0)], boats="A")

    def test_both_places_one_variable(self):
        self.proved(["rule s(X,X) if q(X,X)"], ["fact q(A,A)"], "s(A,A)", 1,
                    [found(2, 1, 1), (1, 4, 1, 1, 1, 0, 0)], [])
        self.proved(["rule s(X,X) if q(X,X)"], ["fact q(A,A)"], "s(A,B)", 0, [], [(4, 1, 2)])
        self.proved(["rule s(X,X) if q(X,X)"], ["fact q(A,A)"], "s(B,B)", 0, [], [(2, 2, 2), (4, 2, 2)])

    def test_the_alone_of_the_document(self):
        rules = ["rule r(X) unless q(X,Y)"]
        self.proved(rules, [], "r(A)", 1, [(1, 3, 1, 0, 1, 1, 0)], [(2, 1, 1)])
        self.proved(rules, ["fact q(A,A)"], "r(A)", 1, [(1, 3, 1, 0, 1, 2, 0)], [(2, 1, 2)])
        self.proved(rules, ["fact q(A,B)", "fact q(A,A)"], "r(A)", 0, [found(2, 1, 2), found(2, 1, 1)], [(3, 1, 0)])


class Order(unittest.TestCase):
    def test_the_same_proof_again_and_again(self):
        answers = run(book(), new_case(), proof(1, "broke(Ada)"), proof(1, "broke(Bo)"), proof(1, "broke(Ada)"),
                      proof(1, "broke(Bo)"))
        self.assertEqual(answers[2], answers[4])
        self.assertEqual(answers[3], answers[5])

    def test_to_and_fro_gives_the_same_proof(self):
        answers = run(book(), new_case(), proof(1, "broke(Ada)"), rule(1, 2, 0), proof(1, "broke(Ada)"), rule(1, 2, 1),
                      proof(1, "broke(Ada)"), fact(1, 1, "clear(Ada)"), fact(1, 0, "clear(Ada)"),
                      proof(1, "broke(Ada)"))
        self.assertEqual(answers[4], told(0, [], [(6, 1, 0)]))
        self.assertEqual(answers[2], answers[6])
        self.assertEqual(answers[2], answers[9])


if __name__ == "__main__":
    unittest.main()
