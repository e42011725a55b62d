"""What holds: instances, when they count, layers, and what is changed in a case."""

import unittest

from tests.helper import book, every, fact, holds, last, lines, new_case, number, printed, proof, rule, run, text

PREDS = ("book b", "pred nil 0", "pred one 1", "pred two 2", "pred res 0", "pred out 1", "pred pair 2")
NIL, ONE, TWO, RES, OUT, PAIR = 1, 2, 3, 4, 5, 6


def holding(rules, told, predicate, boats="ABC"):
    """What all answers of the predicate by these rules in a case with these boats and lines."""
    case = lines("case c", *["boat " + boat for boat in boats], *told)
    return last(book(lines(*PREDS, *rules)), new_case(case), every(1, predicate))


class Instances(unittest.TestCase):
    def test_facts_hold(self):
        self.assertEqual(holding([], ["fact nil"], NIL), [1, 0, 0])
        self.assertEqual(holding([], ["fact one(C)", "fact one(A)"], ONE), [2, 1, 0, 3, 0])
        self.assertEqual(holding([], ["fact two(C,A)", "fact two(A,C)", "fact two(A,B)", "fact two(B,B)"], TWO),
                         [4, 1, 2, 1, 3, 2, 2, 3, 1])
        self.assertEqual(holding([], [], TWO), [0])

    def test_a_rule_without_conditions(self):
        self.assertEqual(holding(["rule res"], [], RES), [1, 0, 0])
        self.assertEqual(holding(["rule out(X)"], [], OUT), [3, 1, 0, 2, 0, 3, 0])
        self.assertEqual(holding(["rule out(Z)"], [], OUT, "A"), [1, 1, 0])
        self.assertEqual(holding(["rule pair(Y,X)"], [], PAIR, "AB"), [4, 1, 1, 1, 2, 2, 1, 2, 2])
        self.assertEqual(holding(["rule pair(Z,Z)"], [], PAIR), [3, 1, 1, 2, 2, 3, 3])

    def test_the_places_of_variables(self):
        facts = ["fact two(A,B)", "fact two(C,C)"]
        self.assertEqual(holding(["rule pair(X,Y) if two(X,Y)"], facts, PAIR), [2, 1, 2, 3, 3])
        self.assertEqual(holding(["rule pair(X,Y) if two(Y,X)"], facts, PAIR), [2, 2, 1, 3, 3])
        self.assertEqual(holding(["rule pair(Z,Y) if two(Y,Z)"], facts, PAIR), [2, 2, 1, 3, 3])
        self.assertEqual(holding(["rule out(Y) if two(X,Y)"], facts, OUT), [2, 2, 0, 3, 0])
        self.assertEqual(holding(["rule out(Z) if two(Z,Z)"], facts, OUT), [1, 3, 0])
        self.assertEqual(holding(["rule pair(X,X) if two(X,Y)"], facts, PAIR), [2, 1, 1, 3, 3])

    def test_unlike_variables_may_get_one_boat(self):
        self.assertEqual(holding(["rule pair(X,Y) if one(X) if one(Y)"], ["fact one(B)"], PAIR), [1, 2, 2])
        self.assertEqual(holding(["rule pair(X,Y) if one(X) if one(Y) differ X Y"], ["fact one(B)"], PAIR), [0])
        self.assertEqual(holding(["rule pair(X,Y) if one(X) if one(Y) differ Y X"], ["fact one(B)", "fact one(C)"],
                                 PAIR), [2, 2, 3, 3, 2])

    def test_a_variable_that_stands_in_a_condition_alone(self):
        self.assertEqual(holding(["rule res if one(Y)"], ["fact one(C)"], RES), [1, 0, 0])
        self.assertEqual(holding(["rule res if one(Y)"], [], RES), [0])
        self.assertEqual(holding(["rule out(X) if two(X,Z)"], ["fact two(A,C)", "fact two(B,B)"], OUT), [2, 1, 0, 2, 0])

    def test_a_variable_that_stands_in_unless_alone(self):
        rules = ["rule out(X) unless two(X,Y)"]
        self.assertEqual(holding(rules, ["fact two(A,B)"], OUT, "AB"), [2, 1, 0, 2, 0])
        self.assertEqual(holding(rules, ["fact two(A,B)", "fact two(A,A)"], OUT, "AB"), [1, 2, 0])
        self.assertEqual(holding(rules, ["fact two(A,A)"], OUT, "A"), [0])
        self.assertEqual(holding(["rule res unless one(X)"], ["fact one(A)"], RES, "A"), [0])
        self.assertEqual(holding(["rule res unless one(X)"], ["fact one(A)"], RES, "AB"), [1, 0, 0])

    def test_a_variable_that_stands_in_differ_alone(self):
        self.assertEqual(holding(["rule res differ X Y"], [], RES, "AB"), [1, 0, 0])
        self.assertEqual(holding(["rule res differ X Y"], [], RES, "A"), [0])
        self.assertEqual(holding(["rule res differ X Y differ Y Z"], [], RES, "AB"), [1, 0, 0])
        self.assertEqual(holding(["rule res differ X Y differ Y Z differ X Z"], [], RES, "AB"), [0])
        self.assertEqual(holding(["rule res differ X Y differ Y Z differ X Z"], [], RES, "ABC"), [1, 0, 0])
        self.assertEqual(holding(["rule out(Z) if one(Z) differ Z Y"], ["fact one(A)"], OUT, "A"), [0])
        self.assertEqual(holding(["rule out(Z) if one(Z) differ Z Y"], ["fact one(A)"], OUT, "AB"), [1, 1, 0])

    def test_all_conditions_are_asked(self):
        rules = ["rule out(X) if one(X) if two(X,X) if nil"]
        self.assertEqual(holding(rules, ["fact one(A)", "fact two(A,A)", "fact nil"], OUT), [1, 1, 0])
        self.assertEqual(holding(rules, ["fact one(A)", "fact two(A,A)"], OUT), [0])
        self.assertEqual(holding(rules, ["fact one(A)", "fact two(B,B)", "fact nil"], OUT), [0])
        self.assertEqual(holding(rules, ["fact two(A,A)", "fact nil"], OUT), [0])
        rules = ["rule out(X) if one(X) unless two(X,X) unless nil"]
        self.assertEqual(holding(rules, ["fact one(A)"], OUT), [1, 1, 0])
        self.assertEqual(holding(rules, ["fact one(A)", "fact nil"], OUT), [0])
        self.assertEqual(holding(rules, ["fact one(A)", "fact two(A,A)"], OUT), [0])
        self.assertEqual(holding(rules, ["fact one(A)", "fact two(A,B)"], OUT), [1, 1, 0])

    def test_an_atom_that_is_a_fact_and_a_head(self):
        self.assertEqual(holding(["rule out(X) if one(X)"], ["fact one(A)", "fact out(A)", "fact out(C)"], OUT),
                         [2, 1, 0, 3, 0])
        self.assertEqual(holding(["rule out(X) unless one(X)"], ["fact one(A)", "fact out(A)"], OUT, "AB"),
                         [2, 1, 0, 2, 0])


class When(unittest.TestCase):
    def res(self, form, *numbers):
        told = ["number %s %d" % each for each in numbers]
        answer = holding(["rule res when " + form], told, RES)
        self.assertIn(answer, ([0], [1, 0, 0]))
        return answer == [1, 0, 0]

    def test_below(self):
        self.assertTrue(self.res("a < b", ("a", 4), ("b", 5)))
        self.assertFalse(self.res("a < b", ("a", 5), ("b", 5)))
        self.assertFalse(self.res("a < b", ("a", 6), ("b", 5)))

    def test_not_above(self):
        self.assertTrue(self.res("a <= b", ("a", 4), ("b", 5)))
        self.assertTrue(self.res("a <= b", ("a", 5), ("b", 5)))
        self.assertFalse(self.res("a <= b", ("a", 6), ("b", 5)))

    def test_below_with_a_number_added(self):
        self.assertTrue(self.res("a < b + 10", ("a", 14), ("b", 5)))
        self.assertFalse(self.res("a < b + 10", ("a", 15), ("b", 5)))
        self.assertFalse(self.res("a < b + 10", ("a", 16), ("b", 5)))

    def test_not_above_with_a_number_added(self):
        self.assertTrue(self.res("a <= b + 10", ("a", 14), ("b", 5)))
        self.assertTrue(self.res("a <= b + 10", ("a", 15), ("b", 5)))
        self.assertFalse(self.res("a <= b + 10", ("a", 16), ("b", 5)))

    def test_numbers_that_are_not_told(self):
        for form in ("a < b", "a <= b", "a < b + 10", "a <= b + 10"):
            with self.subTest(form=form):
                self.assertFalse(self.res(form))
                self.assertFalse(self.res(form, ("a", 0)))
                self.assertFalse(self.res(form, ("b", 5)))
                self.assertFalse(self.res(form, ("c", 0), ("d", 5)))
                self.assertTrue(self.res(form, ("b", 5), ("a", 0)))

    def test_a_number_that_is_0_is_told(self):
        self.assertTrue(self.res("a <= b", ("a", 0), ("b", 0)))
        self.assertFalse(self.res("a < b", ("a", 0), ("b", 0)))
        self.assertTrue(self.res("a < b + 1", ("a", 0), ("b", 0)))

    def test_at_the_bound_of_numbers(self):
        self.assertTrue(self.res("a < b + 1000000", ("a", 1000000), ("b", 1)))
        self.assertFalse(self.res("a < b + 1000000", ("a", 1000000), ("b", 0)))
        self.assertTrue(self.res("a <= b + 1000000", ("a", 1000000), ("b", 0)))

    def test_one_name_twice(self):
        self.assertFalse(self.res("a < a", ("a", 3)))
        self.assertTrue(self.res("a <= a", ("a", 3)))
        self.assertTrue(self.res("a < a + 1", ("a", 3)))
        self.assertFalse(self.res("a <= a"))

    def test_several_in_one_rule(self):
        form = "a < b when b < c"
        self.assertTrue(self.res(form, ("a", 1), ("b", 2), ("c", 3)))
        self.assertFalse(self.res(form, ("a", 2), ("b", 2), ("c", 3)))
        self.assertFalse(self.res(form, ("a", 1), ("b", 2), ("c", 2)))
        self.assertFalse(self.res(form, ("a", 1), ("b", 2)))

    def test_numbers_are_no_variables(self):
        self.assertEqual(holding(["rule out(X) when X < Y"], ["number X 1", "number Y 2"], OUT, "AB"), [2, 1, 0, 2, 0])
        self.assertEqual(holding(["rule res when X < Y"], [], RES), [0])


class Layered(unittest.TestCase):
    def test_over_several_rounds(self):
        rules = ["rule pair(X,Z) if pair(X,Y) if two(Y,Z)", "rule pair(X,Y) if two(X,Y)"]
        self.assertEqual(holding(rules, ["fact two(A,B)", "fact two(B,C)", "fact two(C,D)"], PAIR, "ABCD"),
                         [6, 1, 2, 1, 3, 1, 4, 2, 3, 2, 4, 3, 4])

    def test_a_ring_of_if_holds_nothing_by_itself(self):
        rules = ["rule nil if res", "rule res if nil"]
        self.assertEqual(holding(rules, [], RES), [0])
        self.assertEqual(holding(rules, ["fact nil"], RES), [1, 0, 0])
        self.assertEqual(holding(rules, ["fact res"], NIL), [1, 0, 0])

    def test_unless_looks_at_all_of_the_layer_below(self):
        rules = ["rule res unless out(X)", "rule out(X) if two(X,Y) if out(Y)", "rule out(X) if one(X)"]
        self.assertEqual(holding(rules, ["fact two(A,B)", "fact two(B,C)", "fact one(C)"], RES), [0])
        self.assertEqual(holding(rules, ["fact two(A,B)", "fact one(C)"], RES), [1, 0, 0])

    def test_over_several_layers(self):
        preds = ["pred p%d 0" % each for each in range(6)]
        rules = ["rule p%d unless p%d" % (each + 1, each) for each in range(5)]
        for told in (rules, list(reversed(rules))):
            calls = [book(lines("book b", *preds, *told)), new_case("case c\nboat A\n")]
            calls.extend(holds(1, "p%d" % each) for each in range(6))
            calls.append(fact(1, 1, "p0"))
            calls.extend(holds(1, "p%d" % each) for each in range(6))
            calls.append(fact(1, 1, "p3"))
            calls.extend(holds(1, "p%d" % each) for each in range(6))
            answers = run(*calls)
            self.assertEqual(answers[2:8], [[0], [1], [0], [1], [0], [1]])
            self.assertEqual(answers[9:15], [[1], [0], [1], [0], [1], [0]])
            self.assertEqual(answers[16:22], [[1], [0], [1], [1], [0], [1]])


class Changes(unittest.TestCase):
    def test_facts_to_and_fro(self):
        told = run(book(), new_case(), fact(1, 1, "clear(Ada)"), every(1, 6), fact(1, 0, "clear(Ada)"), every(1, 6),
                   fact(1, 0, "port(Ada)"), every(1, 5), fact(1, 1, "port(Bo)"), fact(1, 1, "stbd(Ada)"),
                   fact(1, 1, "meets(Bo,Ada)"), every(1, 5), every(1, 6), fact(1, 1, "must(Bo,Bo)"), every(1, 5),
                   fact(1, 1, "heard"), rule(1, 3, 0), holds(1, "heard"), fact(1, 0, "heard"), holds(1, "heard"))
        self.assertEqual(told[2:], [[4], [0], [3], [1, 1, 0], [2], [0], [3], [4], [5], [1, 2, 1], [1, 2, 0], [6],
                                    [2, 2, 1, 2, 2], [7], [0], [1], [6], [0]])

    def test_a_fact_found_again_stands_behind_the_others(self):
        before = [book(), new_case()]
        self.assertEqual([step[1:3] for step in steps(last(*before, proof(1, "broke(Ada)")))],
                         [(1, 1), (2, 2), (3, 1), (5, 1), (6, 1)])
        told = run(*before, fact(1, 0, "port(Ada)"), fact(1, 1, "port(Ada)"), proof(1, "broke(Ada)"))
        self.assertEqual(told[2:4], [[2], [3]])
        self.assertEqual([step[1:3] for step in steps(told[4])], [(2, 2), (3, 1), (1, 1), (5, 1), (6, 1)])

    def test_rules_to_and_fro(self):
        told = run(book(), new_case(), rule(1, 1, 0), every(1, 5), every(1, 6), rule(1, 1, 1), every(1, 6),
                   rule(1, 3, 0), holds(1, "heard"), proof(1, "heard"), rule(1, 3, 1), holds(1, "heard"), printed())
        self.assertEqual(told[2:12], [[0], [0], [0], [0], [1, 1, 0], [0], [0], [0, 0, 1, 7, 0, 0], [0], [1]])
        self.assertEqual(text(told[12]), text(last(book(), printed())))

    def test_a_rule_that_does_not_count_leaves_its_facts_and_other_rules(self):
        rules = ["rule out(X) if one(X)", "rule out(X) if two(X,X)"]
        told = run(book(lines(*PREDS, *rules)), new_case("case c\nboat A\nboat B\nfact one(A)\nfact two(B,B)\n"),
                   rule(1, 1, 0), every(1, OUT), rule(1, 2, 0), every(1, OUT), rule(1, 1, 1), every(1, OUT),
                   fact(1, 1, "out(B)"), every(1, OUT))
        self.assertEqual(told[2:], [[0], [1, 2, 0], [0], [0], [0], [1, 1, 0], [3], [2, 1, 0, 2, 0]])

    def test_numbers(self):
        told = run(book(), new_case(), number(1, 110, "filed"), holds(1, "heard"), number(1, 111, "filed"),
                   holds(1, "heard"), number(1, 51, "finish"), holds(1, "heard"), number(1, 0, "finish"),
                   holds(1, "heard"), number(1, 0, "filed"), holds(1, "heard"), number(1, 1000000, "other"),
                   number(1, 7, "other"), number(1, 7, "other"))
        self.assertEqual(told[2:], [[100], [1], [110], [0], [50], [1], [51], [0], [111], [1], [0], [1000000], [7]])

    def test_a_number_told_later(self):
        told = run(book(), new_case("case c\nboat A\n"), holds(1, "heard"), number(1, 0, "filed"), holds(1, "heard"),
                   number(1, 0, "finish"), holds(1, "heard"), number(1, 61, "filed"), holds(1, "heard"))
        self.assertEqual(told[2:], [[0], [0], [0], [0], [1], [0], [0]])

    def test_names_of_numbers_of_12_letters(self):
        told = run(book(), new_case(), number(1, 5, "abcdefghijkl"), number(1, 6, "abcdefghijkl"), number(1, 1, "-"))
        self.assertEqual(told[2:], [[0], [5], [0]])

    def test_a_new_book_after_cases_were_opened(self):
        told = run(book(), new_case(), new_case(), rule(1, 1, 0), fact(1, 1, "clear(Ada)"), book(), holds(1, "heard"),
                   every(2, 1), rule(1, 1, 1), fact(1, 1, "clear(Ada)"), number(1, 1, "filed"), proof(1, "heard"),
                   new_case(), every(1, 6), rule(1, 1, 1))
        self.assertEqual(told[5:], [[7, 3]] + [[-2]] * 6 + [[1], [1, 1, 0], [-5]])


def steps(answer):
    """The steps of what proof answers."""
    return [tuple(answer[2 + 7 * each:9 + 7 * each]) for each in range(answer[1])]


if __name__ == "__main__":
    unittest.main()
