"""Certificates handed to check: which are right, which step or atom away is the first that isn't, what is none."""

import unittest

from tests.helper import (BOOK, CASE, book, certificate, check, fact, found, last, lines, new_case, number,
                          proof, rule, run)

NAMES = "abcdefgh"
BIG = 1000000000000000000


def of_rule(which, predicate):
    """A step of a rule whose atoms have no places."""
    return (which, predicate, 0, 0, 0, 0, 0)


def nil(predicate):
    return (predicate, 0, 0)


class WithoutPlaces(unittest.TestCase):
    """Predicates a to h, numbered from 1, without places; a step is a rule and a predicate."""

    def calls(self, rules, facts, more=()):
        preds = ["pred %s 0" % name for name in NAMES]
        return [book(lines("book b", *preds, *rules)),
                new_case(lines("case c", "boat A", *["fact " + name for name in facts])), *more]

    def checked(self, rules, facts, steps, away, answer, more=()):
        told = certificate([of_rule(*step) for step in steps], [nil(each) for each in away])
        self.assertEqual(last(*self.calls(rules, facts, more), check(1, told)), [answer], (steps, away))

    def test_no_steps_and_no_atoms_away(self):
        self.assertEqual(run(*self.calls([], ""), check(1, [0, 0]))[2:], [[0]])
        self.checked(["rule a", "rule b if c"], "c", [], [], 0)

    def test_a_fact(self):
        self.checked([], "cab", [(0, 1)], [], 0)
        self.checked([], "cab", [(0, 2), (0, 1), (0, 3)], [], 0)

    def test_no_fact(self):
        self.checked([], "b", [(0, 1)], [], 1)
        self.checked([], "b", [(0, 2), (0, 1)], [], 2)
        self.checked([], "ab", [(0, 1)], [], 1, more=[fact(1, 0, "a")])
        self.checked([], "b", [(0, 1)], [], 0, more=[fact(1, 1, "a")])

    def test_what_holds_by_a_rule_alone_is_no_fact(self):
        self.checked(["rule a if b"], "b", [(0, 2), (0, 1)], [], 2)
        self.checked(["rule a"], "", [(0, 1)], [], 1)
        self.checked(["rule a"], "", [(1, 1), (0, 1)], [], 2)

    def test_a_fact_s_x_y_z_are_0(self):
        calls = self.calls([], "a")
        for step in ((0, 1, 0, 0, 1, 0, 0), (0, 1, 0, 0, 0, 1, 0), (0, 1, 0, 0, 0, 0, 1), (0, 1, 0, 0, 1, 1, 1),
                     (0, 1, 1, 0, 0, 0, 0), (0, 1, 0, 1, 0, 0, 0), (0, 0, 0, 0, 0, 0, 0), (0, 9, 0, 0, 0, 0, 0)):
            with self.subTest(step=step):
                self.assertEqual(last(*calls, check(1, certificate([step], []))), [1])

    def test_by_a_rule(self):
        self.checked(["rule a"], "", [(1, 1)], [], 0)
        self.checked(["rule a if b"], "b", [(0, 2), (1, 1)], [], 0)
        self.checked(["rule a if b unless c"], "b", [(0, 2), (1, 1)], [3], 0)
        self.checked(["rule a if b", "rule c if a"], "b", [(0, 2), (1, 1), (2, 3)], [], 0)

    def test_a_condition_if_that_no_step_shows(self):
        self.checked(["rule a if b"], "b", [(1, 1)], [], 1)
        self.checked(["rule a if b if c"], "bc", [(0, 2), (1, 1)], [], 2)
        self.checked(["rule a if b if c"], "bc", [(0, 3), (1, 1)], [], 2)
        self.checked(["rule a if b if c"], "bc", [(0, 3), (0, 2), (1, 1)], [], 0)
        self.checked(["rule a if b"], "b", [(1, 1)], [2], 1)

    def test_a_condition_if_that_comes_only_behind(self):
        self.checked(["rule a if b"], "b", [(1, 1), (0, 2)], [], 1)
        self.checked(["rule a if b", "rule c if a"], "b", [(0, 2), (2, 3), (1, 1)], [], 2)
        self.checked(["rule a if b", "rule c if a"], "b", [(0, 2), (2, 3), (1, 1), (2, 3)], [], 2)
        self.checked(["rule a if b if c"], "bc", [(0, 2), (1, 1), (0, 3)], [], 2)

    def test_a_step_does_not_bear_itself(self):
        self.checked(["rule a if a"], "", [(1, 1)], [], 1)
        self.checked(["rule a if a"], "", [(1, 1), (1, 1)], [], 1)
        self.checked(["rule a if b", "rule b if a"], "", [(1, 1), (2, 2), (1, 1)], [], 1)
        self.checked(["rule a if a"], "a", [(0, 1), (1, 1)], [], 0)

    def test_a_condition_unless_that_is_not_told_away(self):
        self.checked(["rule a unless b"], "", [(1, 1)], [], 1)
        self.checked(["rule a unless b"], "", [(1, 1)], [3], 1)
        self.checked(["rule a unless b unless c"], "", [(1, 1)], [2], 1)
        self.checked(["rule a unless b unless c"], "", [(1, 1)], [3], 1)
        self.checked(["rule a unless b unless c"], "", [(1, 1)], [3, 2], 0)
        self.checked(["rule a unless b"], "b", [(0, 2), (1, 1)], [], 2)

    def test_a_condition_unless_that_is_wrongly_told_away(self):
        self.checked(["rule a unless b"], "b", [(1, 1)], [2], 2)
        self.checked(["rule a unless b", "rule b"], "", [(1, 1)], [2], 2)
        self.checked(["rule a unless b", "rule b if c"], "c", [(0, 3), (1, 1)], [4, 2], 4)

    def test_away(self):
        self.checked([], "b", [], [1], 0)
        self.checked([], "b", [], [8, 1, 3], 0)
        self.checked(["rule a if b"], "", [], [1, 2], 0)
        self.checked(["rule a if b"], "", [], [2, 1], 0)
        self.checked(["rule a if b"], "", [], [2], 0)
        self.checked(["rule a unless b"], "b", [(0, 2)], [1], 0)

    def test_a_fact_is_not_away(self):
        self.checked([], "a", [], [1], 1)
        self.checked([], "a", [], [2, 1, 3], 2)
        self.checked(["rule a if b"], "a", [], [2, 1], 2)
        self.checked(["rule a unless b"], "ab", [(0, 2)], [1], 2)
        self.checked([], "", [], [1], 1, more=[fact(1, 1, "a")])
        self.checked([], "a", [], [1], 0, more=[fact(1, 0, "a")])

    def test_away_without_a_reason(self):
        self.checked(["rule a"], "", [], [1], 1)
        self.checked(["rule a if b"], "b", [], [1], 1)
        self.checked(["rule a if b"], "", [], [1], 1)
        self.checked(["rule a if b"], "b", [(0, 2)], [1], 2)
        self.checked(["rule a unless b"], "", [], [1], 1)
        self.checked(["rule a unless b"], "b", [], [1], 1)
        self.checked(["rule a unless b"], "", [], [1, 2], 1)
        self.checked(["rule a if b unless c"], "", [], [1, 3], 1)
        self.checked(["rule a if b unless c"], "bc", [(0, 2)], [1], 2)
        self.checked(["rule a if b unless c"], "bc", [(0, 3)], [1], 0)
        self.checked(["rule a if b unless c"], "c", [], [1, 2], 0)

    def test_any_condition_is_reason_enough(self):
        rules = ["rule a if b if c unless d unless e"]
        self.checked(rules, "de", [], [1, 2], 0)
        self.checked(rules, "de", [], [1, 3], 0)
        self.checked(rules, "bcde", [(0, 4)], [1], 0)
        self.checked(rules, "bcde", [(0, 5)], [1], 0)
        self.checked(rules, "bcde", [(0, 2), (0, 3)], [1], 3)

    def test_each_instance_of_the_head_has_a_reason(self):
        rules = ["rule a if b", "rule a unless c", "rule a if d", "rule e if b"]
        self.checked(rules, "c", [(0, 3)], [1, 2, 4], 0)
        self.checked(rules, "c", [(0, 3)], [1, 2], 2)
        self.checked(rules, "c", [(0, 3)], [1, 4], 2)
        self.checked(rules, "c", [], [1, 2, 4], 1)
        self.checked(rules, "c", [], [2, 4, 1], 3)

    def test_a_step_is_a_reason_wherever_it_stands(self):
        rules = ["rule a unless b", "rule b if c if d"]
        self.checked(rules, "cd", [(0, 3), (0, 4), (2, 2)], [1], 0)
        self.checked(rules, "cd", [(0, 4), (0, 3), (2, 2), (0, 3)], [1], 0)
        self.checked(["rule a unless b", "rule c unless a"], "b", [(2, 3), (0, 2)], [1], 0)

    def test_away_over_a_ring_of_if(self):
        rules = ["rule a if b", "rule b if c", "rule c if a"]
        self.checked(rules, "", [], [1, 2, 3], 0)
        self.checked(rules, "", [], [2, 3, 1], 0)
        self.checked(rules, "", [], [1, 2], 2)
        self.checked(["rule a if a"], "", [], [1], 0)
        self.checked(["rule a if a"], "a", [], [1], 1)

    def test_instances_that_do_not_count_need_no_reason(self):
        self.checked(["rule a if b"], "b", [], [1], 0, more=[rule(1, 1, 0)])
        self.checked(["rule a if b"], "b", [], [1], 1, more=[rule(1, 1, 0), rule(1, 1, 1)])
        self.checked(["rule a when x < y"], "", [], [1], 0)
        self.checked(["rule a when x < y"], "", [], [1], 1, more=[number(1, 1, "x"), number(1, 2, "y")])
        self.checked(["rule a when x < y"], "", [], [1], 0, more=[number(1, 2, "x"), number(1, 2, "y")])
        self.checked(["rule a", "rule a if b"], "", [], [1, 2], 0, more=[rule(1, 1, 0)])

    def test_a_rule_that_does_not_count(self):
        self.checked(["rule a if b", "rule a if b"], "b", [(0, 2), (1, 1)], [], 2, more=[rule(1, 1, 0)])
        self.checked(["rule a if b", "rule a if b"], "b", [(0, 2), (2, 1)], [], 0, more=[rule(1, 1, 0)])
        self.checked(["rule a if b"], "b", [(0, 2), (1, 1)], [], 0, more=[rule(1, 1, 0), rule(1, 1, 1)])

    def test_a_rule_that_is_not_there(self):
        for which in (2, 24, 25, 1000000):
            with self.subTest(which=which):
                self.checked(["rule a"], "a", [(which, 1)], [], 1)
                self.checked(["rule a"], "a", [(1, 1), (which, 1), (1, 1)], [], 2)
        rules = ["rule %s" % NAMES[each % 8] for each in range(24)]
        self.checked(rules, "", [(each + 1, each % 8 + 1) for each in range(24)], [], 0)
        self.checked(rules, "", [(each + 1, each % 8 + 1) for each in range(25)], [], 25)

    def test_a_when_that_fails(self):
        rules = ["rule a when x <= y + 2", "rule b when x < y + 2"]
        for numbers, first, second in (({}, 1, 1), ({"x": 1}, 1, 1), ({"y": 1}, 1, 1), ({"x": 5, "y": 3}, 0, 1),
                                       ({"x": 6, "y": 3}, 1, 1), ({"x": 4, "y": 3}, 0, 0)):
            with self.subTest(numbers=numbers):
                more = [number(1, value, name) for name, value in numbers.items()]
                self.checked(rules, "", [(1, 1)], [], first, more)
                self.checked(rules, "", [(2, 2)], [], second, more)

    def test_a_number_told_anew(self):
        more = [number(1, 5, "x"), number(1, 6, "y")]
        self.checked(["rule a when x < y"], "", [(1, 1)], [], 0, more)
        self.checked(["rule a when x < y"], "", [(1, 1)], [], 1, more + [number(1, 6, "x")])
        self.checked(["rule a when x < y"], "", [(1, 1)], [], 0, more + [number(1, 6, "x"), number(1, 7, "y")])

    def test_a_wrong_head(self):
        self.checked(["rule a", "rule b"], "", [(1, 2)], [], 1)
        self.checked(["rule a", "rule b"], "", [(2, 1)], [], 1)
        self.checked(["rule a", "rule b"], "ab", [(1, 1), (1, 2)], [], 2)
        self.checked(["rule a"], "", [(1, 0)], [], 1)
        self.checked(["rule a"], "", [(1, 9)], [], 1)

    def test_a_wrong_step_at_each_place(self):
        rules = ["rule %s if %s" % (NAMES[each + 1], NAMES[each]) for each in range(6)]
        steps = [(0, 1)] + [(each, each + 1) for each in range(1, 7)]
        self.checked(rules, "a", steps, [8], 0)
        for place in range(7):
            with self.subTest(place=place + 1):
                wrong = list(steps)
                wrong[place] = (0, 8)
                self.checked(rules, "a", wrong, [8], place + 1)
                self.checked(rules, "a", steps[:place] + [(9, 9)] + steps[place:], [], place + 1)
                self.checked(rules, "a", steps[:place] + [(9, 9)] + steps[place:], [1], place + 1)

    def test_a_wrong_atom_away_at_each_place(self):
        away = [2, 3, 4, 5, 6]
        for steps in ([], [(0, 1)], [(0, 1), (0, 1), (0, 1)]):
            self.checked([], "a", steps, away, 0)
            for place in range(6):
                with self.subTest(steps=steps, place=place + 1):
                    self.checked([], "a", steps, away[:place] + [1] + away[place:], len(steps) + place + 1)

    def test_of_several_faults_the_first(self):
        self.checked([], "a", [(0, 1), (0, 2), (0, 3)], [1], 2)
        self.checked([], "a", [(0, 2), (0, 2), (0, 3)], [1, 1], 1)
        self.checked([], "a", [(0, 1), (0, 1), (0, 3)], [1], 3)
        self.checked([], "ab", [(0, 1)], [3, 2, 1], 3)
        self.checked(["rule c"], "ab", [(0, 1)], [1, 3, 2], 2)
        self.checked(["rule c"], "ab", [(0, 1)], [3, 1, 2], 2)
        self.checked(["rule c"], "ab", [], [4, 3, 1], 2)

    def test_the_same_step_twice(self):
        self.checked(["rule b if a"], "a", [(0, 1), (0, 1), (1, 2), (1, 2), (0, 1)], [], 0)
        self.checked(["rule b if a"], "a", [(1, 2), (0, 1), (1, 2)], [], 1)

    def test_the_same_atom_away_twice(self):
        self.checked(["rule a if b"], "c", [], [1, 2, 1, 2, 2], 0)
        self.checked(["rule a if b"], "c", [], [2, 3, 3], 2)

    def test_steps_and_atoms_away_that_are_not_needed(self):
        rules = ["rule a if b", "rule c unless d"]
        self.checked(rules, "bef", [(0, 6), (0, 2), (2, 3), (1, 1), (0, 5)], [8, 4, 7], 0)

    def test_a_fact_that_is_a_head_too(self):
        rules = ["rule a if b", "rule c if a"]
        for steps in ([(0, 1)], [(0, 2), (1, 1)], [(0, 1), (0, 2), (1, 1)], [(0, 1), (2, 3)],
                      [(0, 2), (1, 1), (2, 3)]):
            with self.subTest(steps=steps):
                self.checked(rules, "ab", steps, [], 0)
        self.checked(rules, "ab", [(1, 1)], [], 1)
        self.checked(rules, "a", [(0, 1)], [2], 0)

    def test_one_atom_shown_and_away(self):
        self.checked([], "a", [(0, 1)], [1], 2)
        self.checked(["rule a if b"], "b", [(0, 2), (1, 1)], [1], 3)
        self.checked(["rule a if b"], "b", [(0, 2), (1, 1)], [1, 2], 4)
        self.checked(["rule a unless b"], "", [(1, 1)], [2, 1], 3)

    def test_over_several_layers(self):
        rules = ["rule a unless b", "rule b unless c", "rule c unless d"]
        self.checked(rules, "", [(3, 3), (1, 1)], [2, 4], 0)
        self.checked(rules, "", [(1, 1), (3, 3)], [4, 2], 0)
        self.checked(rules, "", [(3, 3), (1, 1)], [2], 1)
        self.checked(rules, "", [(1, 1)], [2, 4], 2)
        self.checked(rules, "d", [(3, 3), (1, 1)], [2, 4], 4)
        self.checked(rules, "d", [(0, 4), (2, 2)], [1, 3], 0)


class WithPlaces(unittest.TestCase):
    preds = ("book b", "pred p 1", "pred q 2", "pred r 1", "pred s 2", "pred t 0")

    def checked(self, rules, case, steps, away, answer, boats="AB"):
        calls = [book(lines(*self.preds, *rules)),
                 new_case(lines("case c", *["boat " + boat for boat in boats], *case)),
                 check(1, certificate(steps, away))]
        self.assertEqual(last(*calls), [answer], (steps, away))

    def test_facts(self):
        facts = ["fact p(A)", "fact q(A,B)", "fact t"]
        self.checked([], facts, [found(1, 1), found(2, 1, 2), found(5)], [], 0)
        for step in (found(1, 2), found(1), found(1, 1, 1), found(1, 0, 1), found(2, 2, 1), found(2, 1), found(2, 1, 1),
                     found(5, 1), found(3, 1), found(1, 3), found(1, 1000000), found(1000000, 1), found(0)):
            with self.subTest(step=step):
                self.checked([], facts, [found(1, 1), step], [], 2)

    def test_each_instance(self):
        rules = ["rule r(X) if q(X,Y)"]
        facts = ["fact q(A,B)", "fact q(B,A)"]
        shown = [found(2, 1, 2), found(2, 2, 1)]
        self.checked(rules, facts, shown + [(1, 3, 1, 0, 1, 2, 0), (1, 3, 2, 0, 2, 1, 0)], [], 0)
        for step in ((1, 3, 2, 0, 1, 2, 0), (1, 3, 1, 0, 2, 1, 0), (1, 3, 1, 0, 1, 1, 0), (1, 3, 2, 0, 2, 2, 0),
                     (1, 3, 1, 1, 1, 2, 0), (1, 3, 0, 0, 1, 2, 0), (1, 3, 1, 2, 1, 2, 0), (1, 1, 1, 0, 1, 2, 0)):
            with self.subTest(step=step):
                self.checked(rules, facts, shown + [step], [], 3)

    def test_boats_that_are_not_there(self):
        for boat in (3, 4, 5, 1000000):
            with self.subTest(boat=boat):
                self.checked(["rule r(X)"], [], [(1, 3, boat, 0, boat, 0, 0)], [], 1)
                self.checked(["rule r(X) unless p(Y)"], [], [(1, 3, 1, 0, 1, boat, 0)], [(1, boat, 0)], 1)
                self.checked(["rule s(X,Z)"], [], [(1, 4, 1, boat, 1, 0, boat)], [], 1)
        self.checked(["rule r(X)"], [], [(1, 3, 4, 0, 4, 0, 0)], [], 0, boats="ABCD")
        self.checked(["rule r(X)"], [], [(1, 3, 5, 0, 5, 0, 0)], [], 1, boats="ABCD")

    def test_no_boat_for_a_variable_that_the_rule_has(self):
        self.checked(["rule r(X)"], [], [(1, 3, 0, 0, 0, 0, 0)], [], 1)
        self.checked(["rule r(X) unless p(Y)"], [], [(1, 3, 1, 0, 1, 0, 0)], [(1, 0, 0)], 1)
        self.checked(["rule t differ Y Z"], [], [(1, 5, 0, 0, 0, 0, 1)], [], 1)
        self.checked(["rule t differ Y Z"], [], [(1, 5, 0, 0, 0, 1, 0)], [], 1)
        self.checked(["rule t differ Y Z"], [], [(1, 5, 0, 0, 0, 1, 2)], [], 0)

    def test_a_boat_for_a_variable_that_the_rule_does_not_have(self):
        self.checked(["rule r(Y)"], [], [(1, 3, 1, 0, 0, 1, 0)], [], 0)
        for step in ((1, 3, 1, 0, 1, 1, 0), (1, 3, 1, 0, 0, 1, 1), (1, 3, 1, 0, 1, 0, 0), (1, 3, 1, 0, 0, 0, 1),
                     (1, 3, 1, 0, 2, 1, 2), (1, 3, 1, 0, 1, 1, 1)):
            with self.subTest(step=step):
                self.checked(["rule r(Y)"], [], [step], [], 1)
        self.checked(["rule t"], [], [(1, 5, 0, 0, 1, 0, 0)], [], 1)

    def test_a_differ_that_fails(self):
        rules = ["rule s(X,Y) differ X Y"]
        self.checked(rules, [], [(1, 4, 1, 2, 1, 2, 0), (1, 4, 2, 1, 2, 1, 0)], [(4, 1, 1), (4, 2, 2)], 0)
        self.checked(rules, [], [(1, 4, 1, 1, 1, 1, 0)], [], 1)
        self.checked(rules, [], [], [(4, 1, 2)], 1)
        self.checked(["rule s(X,Y)"], [], [(1, 4, 1, 1, 1, 1, 0)], [], 0)
        self.checked(["rule r(X) differ Z Y"], [], [(1, 3, 1, 0, 1, 2, 2)], [], 1)
        self.checked(["rule r(X) differ Z Y"], [], [(1, 3, 1, 0, 1, 2, 1)], [], 0)

    def test_conditions_with_the_boats_of_the_step(self):
        rules = ["rule r(X) if q(Y,X) unless p(Y)"]
        facts = ["fact q(B,A)"]
        self.checked(rules, facts, [found(2, 2, 1), (1, 3, 1, 0, 1, 2, 0)], [(1, 2, 0)], 0)
        self.checked(rules, facts, [found(2, 2, 1), (1, 3, 1, 0, 1, 2, 0)], [(1, 1, 0)], 2)
        self.checked(rules, facts, [found(2, 2, 1), (1, 3, 1, 0, 1, 1, 0)], [(1, 1, 0)], 2)
        self.checked(rules, facts + ["fact q(A,B)"], [found(2, 1, 2), (1, 3, 1, 0, 1, 2, 0)], [(1, 2, 0)], 2)

    def test_away_for_each_instance(self):
        rules = ["rule t if p(X)"]
        self.checked(rules, [], [], [(5, 0, 0), (1, 1, 0), (1, 2, 0)], 0)
        self.checked(rules, [], [], [(5, 0, 0), (1, 1, 0)], 1)
        self.checked(rules, [], [], [(1, 2, 0), (5, 0, 0)], 2)
        self.checked(rules, ["fact p(B)"], [found(1, 2)], [(5, 0, 0), (1, 1, 0)], 2)
        self.checked(["rule r(X) unless q(X,Y)"], ["fact q(A,A)", "fact q(A,B)"], [found(2, 1, 1), found(2, 1, 2)],
                     [(3, 1, 0)], 0)
        self.checked(["rule r(X) unless q(X,Y)"], ["fact q(A,A)", "fact q(A,B)"], [found(2, 1, 1)], [(3, 1, 0)], 2)
        self.checked(["rule r(X) unless q(X,Y)"], ["fact q(A,A)"], [found(2, 1, 1)], [(3, 1, 0)], 2)

    def test_atoms_away_of_predicates_or_boats_that_are_not_there(self):
        rules = ["rule r(X)", "rule s(X,Y)", "rule t"]
        facts = ["fact p(A)", "fact q(A,B)"]
        for atom in ((0, 0, 0), (6, 0, 0), (17, 1, 0), (1000000, 0, 0), (1000000, 1000000, 1000000), (3, 3, 0),
                     (3, 1000000, 0), (3, 0, 0), (3, 0, 1), (3, 1, 1), (4, 1, 3), (4, 5, 1), (4, 1, 0), (4, 0, 0),
                     (5, 1, 0), (5, 0, 2), (1, 0, 0), (1, 1, 2), (2, 1, 0), (2, 1, 3)):
            with self.subTest(atom=atom):
                self.checked(rules, facts, [], [atom], 0)
                self.checked(rules, facts, [found(1, 1)], [atom, (1, 1, 0)], 3)

    def test_such_atoms_are_no_reason(self):
        self.checked(["rule r(X) if p(X)"], [], [], [(3, 1, 0), (1, 3, 0), (1, 0, 0), (1, 2, 0)], 1)
        self.checked(["rule r(X) if p(X)"], [], [], [(3, 1, 0), (1, 3, 0), (1, 0, 0), (1, 1, 0)], 0)

    def test_the_ordinary_case(self):
        steps = [found(1, 1), found(2, 2), found(3, 1, 2), (1, 5, 1, 2, 1, 2, 0), (2, 6, 1, 0, 1, 2, 0)]
        calls = [book(BOOK), new_case(CASE)]
        self.assertEqual(last(*calls, check(1, certificate(steps, [(4, 1, 0)]))), [0])
        self.assertEqual(last(*calls, check(1, certificate(steps, []))), [5])
        self.assertEqual(last(*calls, check(1, certificate(steps[1:], [(4, 1, 0)]))), [3])
        self.assertEqual(last(*calls, check(1, certificate(steps[:3], [(4, 1, 0), (6, 1, 0)]))), [5])
        self.assertEqual(last(*calls, fact(1, 1, "clear(Ada)"), check(1, certificate(steps, [(4, 1, 0)]))), [6])
        self.assertEqual(last(*calls, fact(1, 0, "stbd(Bo)"), check(1, certificate(steps, [(4, 1, 0)]))), [2])
        self.assertEqual(last(*calls, rule(1, 1, 0), check(1, certificate(steps, [(4, 1, 0)]))), [4])
        self.assertEqual(last(*calls, rule(1, 2, 0), check(1, certificate(steps, [(4, 1, 0)]))), [5])
        self.assertEqual(last(*calls, rule(1, 3, 0), check(1, certificate(steps, [(4, 1, 0)]))), [0])

    def test_each_case_by_its_own_facts_rules_and_numbers(self):
        calls = [book(), new_case(), new_case(), fact(1, 0, "port(Ada)"), rule(2, 3, 0), number(1, 111, "filed")]
        port, heard = certificate([found(1, 1)], []), certificate([(3, 7, 0, 0, 0, 0, 0)], [])
        told = run(*calls, check(1, port), check(2, port), check(1, heard), check(2, heard), rule(2, 3, 1),
                   number(1, 110, "filed"), check(1, heard), check(2, heard))
        self.assertEqual(told[6:], [[1], [0], [1], [1], [0], [111], [0], [0]])


class WhatProofAnswers(unittest.TestCase):
    atoms = ["%s(%s)" % (name, boat) for name in ("port", "stbd", "clear", "broke") for boat in ("Ada", "Bo")]
    atoms += ["%s(%s,%s)" % (name, one, two) for name in ("meets", "must") for one in ("Ada", "Bo")
              for two in ("Ada", "Bo")] + ["heard"]

    def test_is_right(self):
        for more in ([], [rule(1, 1, 0)], [rule(1, 2, 0)], [rule(1, 3, 0)], [fact(1, 0, "port(Ada)")],
                     [fact(1, 1, "clear(Ada)")], [fact(1, 1, "broke(Bo)")], [number(1, 111, "filed")],
                     [number(1, 110, "filed")], [fact(1, 0, "port(Ada)"), fact(1, 1, "port(Ada)"), rule(1, 1, 0)],
                     [fact(1, 1, "port(Bo)"), fact(1, 1, "stbd(Ada)"), fact(1, 1, "meets(Bo,Ada)")]):
            with self.subTest(more=more):
                opened = [book(), new_case(), *more]
                proofs = run(*opened, *[proof(1, atom) for atom in self.atoms])[len(opened):]
                self.assertEqual({each[0] for each in proofs}, {0, 1})
                checked = run(*opened, *[check(1, each[1:]) for each in proofs])[len(opened):]
                self.assertEqual(checked, [[0]] * len(self.atoms))

    def test_is_none_with_its_first_1_or_0(self):
        calls = [book(), new_case()]
        for atom in ("broke(Ada)", "heard", "broke(Bo)", "port(Bo)"):
            with self.subTest(atom=atom):
                answer = last(*calls, proof(1, atom))
                self.assertEqual(last(*calls, check(1, answer)), [-9])
                self.assertEqual(last(*calls, check(1, answer[1:])), [0])


class NoCertificate(unittest.TestCase):
    steps = [found(1, 1), found(2, 2), found(3, 1, 2), (1, 5, 1, 2, 1, 2, 0), (2, 6, 1, 0, 1, 2, 0)]
    right = certificate(steps, [(4, 1, 0), (4, 2, 0)])
    counts = (0, 36)

    def checked(self, numbers, answer):
        told = run(book(), new_case(), check(1, numbers), check(1, [0, 0]))[2:]
        self.assertEqual(told, [[answer], [0]], numbers[:50])

    def test_right_ones(self):
        self.checked(self.right, 0)
        self.checked([0, 0], 0)
        self.checked([1, 0, 1, 1, 0, 0, 0, 0, 0], 0)
        self.checked([0, 1, 1, 2, 0], 0)

    def test_too_few_and_too_many(self):
        for numbers in ([], [0], [1], [5], [0, 1], [0, 0, 0], [0, 2], [0, 0, 0, 0, 0], [0, 1, 1, 2], [0, 1, 1, 2, 0, 0],
                        [0, 2, 1, 2, 0], [0, 1, 1, 2, 0, 1, 2, 0], [1, 0], [1, 0, 0], [1, 0, 1, 1, 0, 0, 0, 0],
                        [1, 0, 1, 1, 0, 0, 0], [1, 0, 1, 1, 0, 0, 0, 0, 1], [1, 0, 1, 1, 0, 0, 0, 0, 0, 0],
                        [2, 0, 1, 1, 0, 0, 0, 0, 0], [1, 0, 1, 1, 0, 0, 0, 0, 1, 1, 2], [0] * 9, [1] * 7, [2] * 14):
            with self.subTest(numbers=numbers):
                self.checked(numbers, -9)

    def test_each_beginning_is_none(self):
        for size in range(len(self.right)):
            with self.subTest(size=size):
                self.checked(self.right[:size], -9)

    def test_more_behind_it(self):
        for size in (1, 2, 3, 7, 10):
            with self.subTest(size=size):
                self.checked(self.right + [0] * size, -9)

    def test_other_counts(self):
        for place in self.counts:
            for count in (0, 1, 3, 4, 6, 7, 35, 1000000):
                with self.subTest(place=place, count=count):
                    self.checked(self.right[:place] + [count] + self.right[place + 1:], -9)

    def test_a_number_out_of_range_at_each_place(self):
        for place in range(len(self.right)):
            for value in (-1, 1000001, BIG, -BIG):
                with self.subTest(place=place, value=value):
                    self.checked(self.right[:place] + [value] + self.right[place + 1:], -9)

    def test_a_million_is_in_range(self):
        for place in range(len(self.right)):
            if place not in self.counts:
                with self.subTest(place=place):
                    numbers = self.right[:place] + [1000000] + self.right[place + 1:]
                    answer = last(book(), new_case(), check(1, numbers))
                    # The last step needs the first atom away; the second may be one that isn't there.
                    expected = (place - 1) // 7 + 1 if place < 36 else 5 if place < 40 else 0
                    self.assertEqual(answer, [expected])

    def test_counts_below_0_that_would_come_out_even(self):
        self.checked([-1, 0, 0, 0, 0, 0, 0, 0, 0], -9)
        self.checked([1, 0, 1, 1, 0, 0, 0, 0, -1], -9)
        self.checked([0, -1], -9)
        self.checked([-1, 2], -9)

    def test_a_certificate_that_is_wrong_too(self):
        self.checked([1, 9, 9, 9, 9, 9, 9, 9, 1, 1, 1, -1], -9)
        self.checked([1, 9, 9, 9, 9, 9, 9, 9, 1, 1, 1, 1], 1)

    def test_600_numbers(self):
        many = certificate([found(1, 1)] * 85, [(1, 2, 0)])
        self.assertEqual(len(many), 600)
        self.checked(many, 0)
        self.checked(certificate([found(1, 1)] * 84 + [found(1, 2)], [(1, 2, 0)]), 85)
        self.checked(certificate([found(1, 1)] * 85, [(1, 1, 0)]), 86)
        away = certificate([found(1, 1)], [(1, 2, 0)] * 197)
        self.assertEqual(len(away), 600)
        self.checked(away, 0)
        self.checked(certificate([found(1, 1)], [(1, 2, 0)] * 196 + [(1, 1, 0)]), 198)
        self.checked(certificate([found(1, 2)], [(1, 2, 0)] * 196 + [(1, 1, 0)]), 1)
        for numbers in ([0] * 600, [1] * 600, [85] * 600, many[:-1] + [-1], many[:-1] + [1000001], [86] + many[1:],
                        [84] + many[1:], many[:596] + [2] + many[597:], many[:599], away[:599],
                        away[:8] + [198] + away[9:], away[:8] + [196] + away[9:]):
            with self.subTest(numbers=numbers[:9], size=len(numbers)):
                self.checked(numbers, -9)


class ManyInstances(unittest.TestCase):
    def test_the_biggest_book_and_list(self):
        conditions = " if p(X) if p(Y) if p(Z) if q(X,Y) if q(Y,Z) if q(Z,X)"
        told = [book(lines("book b", "pred p 1", "pred q 2", "pred t 0", *["rule t" + conditions] * 24)),
                new_case(lines("case c", *["boat " + boat for boat in "ABCD"]))]
        away = [(3, 0, 0)] * 193 + [(1, 1, 0), (1, 2, 0), (1, 3, 0), (1, 4, 0)]
        self.assertEqual(run(*told, *[check(1, certificate([], away))] * 20)[2:], [[0]] * 20)
        self.assertEqual(last(*told, fact(1, 1, "p(D)"), check(1, certificate([], away[:-1]))), [1])
        self.assertEqual(last(*told, fact(1, 1, "p(D)"), check(1, certificate([], away))), [197])


if __name__ == "__main__":
    unittest.main()
