"""Decisions: what is kept, whether they stand, how many there are; and the counts of all."""

import unittest

from tests.helper import (BOOK, CASE, book, counts, decide, decision, fact, last, new_case, number, penalties, rule,
                          run, stands, suppose)

OTHER = "case two\nboat Z\nboat Y\nboat X\nfact broke(Y)\nfact heard\n"


class Decide(unittest.TestCase):
    def test_they_are_numbered_from_1(self):
        told = run(book(), new_case(), decide(1), decide(1), decide(1), decision(1), decision(2), decision(3))
        self.assertEqual(told[2:], [[1], [2], [3]] + [[1, 1, 1, 1, 0]] * 3)

    def test_decisions_of_several_cases(self):
        told = run(book(), new_case(), new_case(OTHER), decide(2), decide(1), decide(2), decision(1), decision(2),
                   decision(3))
        self.assertEqual(told[3:], [[1], [2], [3], [2, 1, 0, 1, 1, 0], [1, 1, 1, 1, 0], [2, 1, 0, 1, 1, 0]])

    def test_the_20th_and_the_21st(self):
        told = run(book(), new_case(), new_case(OTHER), *[decide(1)] * 19, decide(2), decide(1), decide(2),
                   decision(20), decision(21), stands(20), stands(21), counts())
        self.assertEqual(told[3:], [[each] for each in range(1, 21)]
                         + [[-4], [-4], [2, 1, 0, 1, 1, 0], [-7], [1], [-7], [7, 3, 2, 20]])

    def test_they_are_counted_over_all_cases(self):
        calls = [book(), new_case(), new_case(OTHER)] + [decide(1), decide(2)] * 10
        self.assertEqual(run(*calls)[3:], [[each] for each in range(1, 21)])
        self.assertEqual(last(*calls, decide(1)), [-4])
        self.assertEqual(last(*calls, decide(2)), [-4])
        self.assertEqual(last(*calls, new_case(), decide(3)), [-4])

    def test_of_a_case_that_is_not_valid(self):
        told = run(book(), new_case(), number(1, 1000, "filed"), decide(1), decision(1), stands(1))
        self.assertEqual(told[3:], [[1], [1, 0, 0, 0], [1]])

    def test_what_was_kept_stays(self):
        changes = [fact(1, 1, "clear(Ada)"), fact(1, 1, "broke(Bo)"), number(1, 1000, "filed"), rule(1, 2, 0),
                   decide(1), suppose(1, 1, "heard"), new_case(), fact(1, 0, "port(Ada)")]
        calls = [book(), new_case(), decide(1)]
        for change in changes:
            calls.append(change)
            with self.subTest(change=change[:4]):
                self.assertEqual(last(*calls, decision(1)), [1, 1, 1, 1, 0])

    def test_each_keeps_its_own(self):
        told = run(book(), new_case(), decide(1), fact(1, 1, "broke(Bo)"), decide(1), fact(1, 1, "clear(Ada)"),
                   decide(1), number(1, 1000, "filed"), decide(1), decision(1), decision(2), decision(3), decision(4),
                   stands(1), stands(2), stands(3), stands(4))
        self.assertEqual(told[9:], [[1, 1, 1, 1, 0], [1, 1, 1, 1, 1, 1], [1, 1, 0, 1, 1], [1, 0, 0, 0], [0], [0], [0],
                                    [1]])


class Stands(unittest.TestCase):
    def stood(self, *steps):
        """Behind each change: whether the decision that came ahead of all stands."""
        calls, expected = [book(), new_case(), decide(1), stands(1)], [[1]]
        for change, answer in steps:
            calls += [change, stands(1)]
            expected.append([answer])
        self.assertEqual(run(*calls)[3::2], expected)

    def test_by_facts_to_and_fro(self):
        self.stood((fact(1, 1, "clear(Ada)"), 0), (fact(1, 0, "clear(Ada)"), 1), (fact(1, 0, "port(Ada)"), 0),
                   (fact(1, 1, "broke(Ada)"), 1), (fact(1, 1, "broke(Bo)"), 0), (fact(1, 0, "broke(Bo)"), 1))

    def test_by_numbers_to_and_fro(self):
        self.stood((number(1, 110, "filed"), 1), (number(1, 111, "filed"), 0), (number(1, 51, "finish"), 1),
                   (number(1, 7, "else"), 1), (number(1, 50, "finish"), 0))

    def test_by_rules_to_and_fro(self):
        self.stood((rule(1, 1, 0), 0), (rule(1, 1, 1), 1), (rule(1, 2, 0), 0), (rule(1, 3, 0), 0), (rule(1, 2, 1), 0),
                   (rule(1, 3, 1), 1))

    def test_what_does_not_change_the_penalties(self):
        self.stood((fact(1, 1, "clear(Bo)"), 1), (fact(1, 1, "must(Ada,Bo)"), 1), (fact(1, 0, "meets(Ada,Bo)"), 1),
                   (rule(1, 1, 0), 1), (fact(1, 1, "heard"), 1), (rule(1, 3, 0), 1), (new_case(), 1), (decide(1), 1),
                   (suppose(1, 1, "clear(Ada)"), 1))

    def test_the_whole_answer_counts(self):
        told = run(book(), new_case(), fact(1, 1, "broke(Ada)"), fact(1, 1, "clear(Ada)"), decide(1),
                   number(1, 1000, "filed"), decide(1), fact(1, 0, "broke(Ada)"), fact(1, 1, "broke(Bo)"),
                   stands(1), stands(2), number(1, 100, "filed"), stands(1), stands(2))
        self.assertEqual(told[9:], [[0], [1], [1000], [0], [0]])

    def test_other_boats_of_as_many_penalties(self):
        told = run(book(), new_case(), decide(1), fact(1, 1, "clear(Ada)"), fact(1, 1, "broke(Bo)"), penalties(1),
                   stands(1))
        self.assertEqual(told[5:], [[1, 0, 1, 1], [0]])

    def test_other_lines_of_the_same_boat(self):
        text = "book b\npred p 1\npred q 1\npenalty p A\npenalty q B\n"
        told = run(book(text), new_case("case c\nboat A\nfact p(A)\n"), decide(1), fact(1, 0, "p(A)"),
                   fact(1, 1, "q(A)"), penalties(1), stands(1), decision(1), fact(1, 1, "p(A)"), stands(1),
                   fact(1, 0, "q(A)"), stands(1))
        self.assertEqual(told[5:], [[1, 1, 2], [0], [1, 1, 1, 1], [2], [0], [1], [1]])

    def test_a_case_s_own_penalties(self):
        told = run(book(), new_case(), new_case(OTHER), decide(1), decide(2), fact(1, 1, "clear(Ada)"), stands(1),
                   stands(2), fact(2, 0, "broke(Y)"), stands(2), fact(1, 0, "clear(Ada)"), stands(1), stands(2))
        self.assertEqual(told[5:], [[4], [0], [1], [1], [0], [3], [1], [0]])

    def test_a_decision_that_was_made_late(self):
        told = run(book(), new_case(), fact(1, 1, "clear(Ada)"), decide(1), stands(1), fact(1, 0, "clear(Ada)"),
                   stands(1))
        self.assertEqual(told[3:], [[1], [1], [3], [0]])


class Counts(unittest.TestCase):
    def test_at_the_start_of_a_book(self):
        self.assertEqual(last(book(), counts()), [7, 3, 0, 0])
        self.assertEqual(last(book("book b"), counts()), [0, 0, 0, 0])
        self.assertEqual(last(book("book b\npred p 0\npred q 1\nrule p"), counts()), [2, 1, 0, 0])

    def test_after_cases_and_decisions(self):
        told = run(book(), new_case(), counts(), new_case(OTHER), counts(), decide(2), counts(), decide(2), counts(),
                   decide(1), counts())
        self.assertEqual(told[2::2], [[7, 3, 1, 0], [7, 3, 2, 0], [7, 3, 2, 1], [7, 3, 2, 2], [7, 3, 2, 3]])

    def test_at_most(self):
        calls = [book()] + [new_case()] * 6 + [decide(6)] * 20
        self.assertEqual(last(*calls, counts()), [7, 3, 6, 20])
        self.assertEqual(last(*calls, new_case(), decide(1), counts()), [7, 3, 6, 20])

    def test_facts_numbers_and_rules_change_none(self):
        calls = [book(), new_case(), fact(1, 1, "clear(Ada)"), number(1, 3, "n"), rule(1, 1, 0)]
        self.assertEqual(last(*calls, counts()), [7, 3, 1, 0])

    def test_refusals_change_none(self):
        calls = [book(), new_case(), decide(1), new_case("x"), new_case("x" * 4001), decide(2), decide(0), book("x")]
        self.assertEqual(last(*calls, counts()), [7, 3, 1, 1])


class NewBook(unittest.TestCase):
    opened = [book(), new_case(), new_case(OTHER), decide(1), decide(2)]

    def test_no_cases_and_no_decisions(self):
        for text, sizes in (("book b\npred p 0\n", [1, 0]), (BOOK, [7, 3])):
            with self.subTest(sizes=sizes):
                told = run(*self.opened, book(text), counts(), decision(1), stands(1), stands(2), penalties(1),
                           decide(1))
                self.assertEqual(told[5:], [sizes, sizes + [0, 0], [-7], [-7], [-7], [-2], [-2]])

    def test_they_are_numbered_from_1_again(self):
        told = run(*self.opened, book(), new_case(OTHER), decide(1), decision(1), stands(1), decision(2), counts())
        self.assertEqual(told[5:], [[7, 3], [1], [1], [1, 1, 0, 1, 1, 0], [1], [-7], [7, 3, 1, 1]])

    def test_there_is_room_again(self):
        told = run(book(), new_case(), *[decide(1)] * 20, book(), new_case(CASE), *[decide(1)] * 21)
        self.assertEqual(told[22:], [[7, 3], [1]] + [[each] for each in range(1, 21)] + [[-4]])

    def test_a_book_that_is_refused_leaves_them(self):
        for bad, refusal in (("nonsense", -1001), ("x" * 4001, -8), ("book c\npred p 0\nrule p unless p", -1004)):
            with self.subTest(refusal=refusal):
                told = run(*self.opened, book(bad), counts(), decision(1), decision(2), stands(1), stands(2))
                self.assertEqual(told[5:], [[refusal], [7, 3, 2, 2], [1, 1, 1, 1, 0], [2, 1, 0, 1, 1, 0], [1], [1]])


if __name__ == "__main__":
    unittest.main()
