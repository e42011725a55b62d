"""Cases: what is right and wrong in their texts, their bounds, what is written back."""

import unittest

from tests.helper import (CASE, book, every, fact, holds, last, lines, new_case, number, padded, proof, rule, run,
                          suppose, text, written)

PREDS = ("book b", "pred late 0", "pred port 1", "pred over 2")
BOOK = lines(*PREDS)
HEAD = ("case c", "boat A", "boat B")


def answered(*told):
    return last(book(BOOK), new_case(lines(*told)))


class Right(unittest.TestCase):
    def test_an_ordinary_case(self):
        told = lines(*HEAD, "fact late", "fact port(B)", "fact over(A,B)", "number n 7")
        self.assertEqual(run(book(BOOK), new_case(told), every(1, 1), every(1, 2), every(1, 3)),
                         [[3, 0], [1], [1, 0, 0], [1, 2, 0], [1, 1, 2]])

    def test_the_smallest_case(self):
        self.assertEqual(run(book(BOOK), new_case("case c\nboat A"), every(1, 1)), [[3, 0], [1], [0]])

    def test_the_lines_in_another_order(self):
        told = lines("number n 7", "fact late", "boat B", "fact port(B)", "case c", "boat A", "fact over(A,B)")
        self.assertEqual(run(book(BOOK), new_case(told), every(1, 1), every(1, 2), every(1, 3)),
                         [[3, 0], [1], [1, 0, 0], [1, 1, 0], [1, 2, 1]])

    def test_blanks_and_lines_that_stand_for_nothing(self):
        told = "\n  # x\n  case   c \n   \n boat  A\n#\n  fact    port(A)   \n number   n   0"
        self.assertEqual(run(book(BOOK), new_case(told), every(1, 2)), [[3, 0], [1], [1, 1, 0]])

    def test_both_places_one_boat(self):
        self.assertEqual(run(book(BOOK), new_case(lines(*HEAD, "fact over(B,B)")), every(1, 3), holds(1, "over(B,B)"),
                             holds(1, "over(A,B)")), [[3, 0], [1], [1, 2, 2], [1], [0]])

    def test_boats_with_all_sorts_of_names(self):
        told = lines("case late", "boat X", "boat late", "boat -", "boat 7", "fact over(X,late)", "fact over(-,7)")
        self.assertEqual(run(book(BOOK), new_case(told), every(1, 3)), [[3, 0], [1], [2, 1, 2, 3, 4]])

    def test_one_name_for_case_boat_and_number(self):
        self.assertEqual(answered("case c", "boat c", "number c 3", "fact port(c)"), [1])

    def test_cases_are_numbered_from_1(self):
        told = run(book(BOOK), *[new_case(lines(*HEAD))] * 6, new_case(lines(*HEAD)))
        self.assertEqual(told[1:], [[1], [2], [3], [4], [5], [6], [-4]])

    def test_a_wrong_text_takes_no_number(self):
        self.assertEqual(run(book(BOOK), new_case("case c"), new_case(lines(*HEAD)), new_case("x"),
                             new_case(lines(*HEAD))), [[3, 0], [-1002], [1], [-1001], [2]])


class Wrong(unittest.TestCase):
    def test_empty_texts(self):
        for told, line in (("", 1), ("\n", 2), ("\n\n", 3), ("  ", 2), ("# case c\n# boat A", 3)):
            with self.subTest(told=told):
                self.assertEqual(last(book(BOOK), new_case(told)), [-1000 - line])

    def test_the_whole(self):
        self.assertEqual(answered("case c"), [-1002])
        self.assertEqual(answered("boat A"), [-1002])
        self.assertEqual(answered("case c", "", "fact late", "# x"), [-1005])
        self.assertEqual(answered("boat A", "fact late", "number n 1"), [-1004])
        self.assertEqual(last(book(BOOK), new_case("boat A\nfact late")), [-1003])

    def test_the_first_line(self):
        for line in ("cases c", "case", "case c d", "case abcdefghijklm", "case c_", "Case c", "case c.", "nonsense",
                     "boat", "boat A B", "boat A_", "fact", "fact nobody", "number", "number n", "number n x",
                     "case 1%"):
            with self.subTest(line=line):
                self.assertEqual(answered(line, *HEAD), [-1001])
                self.assertEqual(last(book(BOOK), new_case(line)), [-1001])

    def test_later_lines(self):
        for line in ("case d", "case c", "boat A", "boat B", "boat abcdefghijklm", "boat C D", "boat A(B)", "boat a,b",
                     "fact late late", "fact", "number n 1 1", "number n_ 1", "number abcdefghijklm 1", "number 1",
                     "book b", "pred p 0", "rule late", "valid late", "penalty port A", "fact late # x", "facts late",
                     "Fact late", "boats C", "Boat C", "numbers n 1", "Number n 1", "late", "late late", "n n 1"):
            with self.subTest(line=line):
                self.assertEqual(answered(*HEAD, line), [-1004])
                self.assertEqual(answered(*HEAD, "", "fact late", line, "x"), [-1006])

    def test_the_first_of_several_wrong_lines(self):
        self.assertEqual(answered("case c", "# x", "x", "boat A", "y"), [-1003])

    def test_bytes_that_are_not_plain(self):
        for byte in (0, 9, 13, 31, 127, 128, 255):
            with self.subTest(byte=byte):
                sign = bytes([byte])
                self.assertEqual(last(book(BOOK), new_case(b"#" + sign + b"\ncase c\nboat A\n")), [-1001])
                self.assertEqual(last(book(BOOK), new_case(b"case c\nboat A\n#" + sign)), [-1003])
                self.assertEqual(last(book(BOOK), new_case(b"case c\nboat A" + sign + b"\nfact x\n")), [-1002])

    def test_atoms(self):
        wrong = ("late()", "late(A)", "port", "port()", "port(A,B)", "port(C)", "port(a)", "port(A", "portA)",
                 "port(A))", "port(A,)", "over(A)", "over(A,B,A)", "over(A,C)", "over(C,A)", "over(,A)", "over(A,)",
                 "over(A;B)",
                 "nobody", "nobody(A)", "A", "port(X)", "port(1)", "over(AB)", "(A)", "port(late)", "Late", "port(AB",
                 "port(A]", "over(A,BA", "over(A,B]", "port(A,")
        for atom in wrong:
            with self.subTest(atom=atom):
                self.assertEqual(answered(*HEAD, "fact " + atom), [-1004])

    def test_atoms_split_by_blanks(self):
        self.assertEqual(answered(*HEAD, "fact over(A, B)"), [-1004])
        self.assertEqual(answered(*HEAD, "fact port (A)"), [-1004])

    def test_a_boat_is_told_before_it_is_used(self):
        self.assertEqual(answered("case c", "boat A", "fact port(B)", "boat B"), [-1003])
        self.assertEqual(answered("case c", "boat A", "boat B", "fact port(B)"), [1])

    def test_a_fact_twice(self):
        self.assertEqual(answered(*HEAD, "fact port(A)", "fact port(B)", "fact port(A)"), [-1006])
        self.assertEqual(answered(*HEAD, "fact over(A,B)", "fact over(B,A)"), [1])

    def test_a_number_s_name_twice(self):
        self.assertEqual(answered(*HEAD, "number n 1", "number m 1", "number n 1"), [-1006])
        self.assertEqual(answered(*HEAD, "number n 1", "number n 2"), [-1005])


class Bounds(unittest.TestCase):
    def test_the_5th_boat(self):
        boats = ["boat b%d" % each for each in range(5)]
        self.assertEqual(answered("case c", *boats[:4]), [1])
        self.assertEqual(answered("case c", *boats), [-1006])

    def test_the_61st_fact(self):
        preds = ["pred p%d 2" % each for each in range(4)]
        boats = ["boat b%d" % each for each in range(4)]
        facts = ["fact p%d(b%d,b%d)" % (one, two, three)
                 for one in range(4) for two in range(4) for three in range(4)]
        told = book(lines("book b", *preds))
        self.assertEqual(last(told, new_case(lines("case c", *boats, *facts[:60]))), [1])
        self.assertEqual(last(told, new_case(lines("case c", *boats, *facts[:61]))), [-1066])

    def test_the_9th_number(self):
        numbers = ["number n%d %d" % (each, each) for each in range(9)]
        self.assertEqual(answered(*HEAD, *numbers[:8]), [1])
        self.assertEqual(answered(*HEAD, *numbers), [-1012])

    def test_numbers(self):
        for value, right in (("0", True), ("7", True), ("1000000", True), ("1000001", False), ("9999999", False),
                             ("10000000", False), ("00", False), ("01", False), ("0000001", False), ("-1", False),
                             ("+1", False), ("1.", False), ("x", False), ("1x", False)):
            with self.subTest(value=value):
                self.assertEqual(answered(*HEAD, "number n " + value), [1] if right else [-1004])

    def test_names_of_12_and_of_13_letters(self):
        self.assertEqual(answered("case abcdefghijkl", "boat abcdefghijkl", "number abcdefghijkl 1"), [1])
        self.assertEqual(answered("case abcdefghijklm", "boat A"), [-1001])
        self.assertEqual(answered("case c", "boat abcdefghijklm"), [-1002])
        self.assertEqual(answered("case c", "boat A", "number abcdefghijklm 1"), [-1003])

    def test_4000_bytes_and_4001(self):
        right = lines(*HEAD)
        self.assertEqual(last(book(BOOK), new_case(padded(right, 4000))), [1])
        self.assertEqual(last(book(BOOK), new_case(padded(right, 4001))), [-8])
        self.assertEqual(last(book(BOOK), new_case(padded("x\n", 4001))), [-8])
        self.assertEqual(last(book(BOOK), new_case(padded("x\n", 4000))), [-1001])


class WrittenBack(unittest.TestCase):
    def back(self, *calls):
        """The first case, written back behind the calls."""
        return text(last(book(BOOK), *calls, written(1)))

    def test_case_boats_facts_numbers(self):
        content = " number  m 5 \n\nboat B\nfact late\n# x\nboat A\nfact over(B,A)\ncase c\nnumber a 0\nfact port(A)"
        self.assertEqual(self.back(new_case(content)), "case c\nboat B\nboat A\nfact late\nfact over(B,A)\n"
                         "fact port(A)\nnumber m 5\nnumber a 0\n")

    def test_a_case_as_it_stands(self):
        self.assertEqual(last(book(), new_case(), written(1)), list(CASE.encode()))
        self.assertEqual(last(book(), new_case(CASE[:-1]), written(1)), list(CASE.encode()))

    def test_the_smallest_case(self):
        self.assertEqual(self.back(new_case("boat A\ncase c")), "case c\nboat A\n")

    def test_neither_by_names_nor_by_numbers(self):
        told = lines("case z", "boat b", "boat D", "boat a", "boat C", "fact port(C)", "fact over(a,D)", "fact late",
                     "fact over(D,a)", "fact port(b)", "number z 1", "number 9 1000000", "number A 0", "number 10 12")
        self.assertEqual(self.back(new_case(told)), told)

    def test_a_fact_found_later_stands_behind_the_others(self):
        told = [new_case(lines(*HEAD, "fact port(B)", "fact over(A,B)", "number n 7"))]
        told.append(fact(1, 1, "late"))
        self.assertEqual(self.back(*told),
                         lines(*HEAD, "fact port(B)", "fact over(A,B)", "fact late", "number n 7"))
        told.append(fact(1, 1, "port(A)"))
        self.assertEqual(self.back(*told), lines(*HEAD, "fact port(B)", "fact over(A,B)", "fact late", "fact port(A)",
                                                 "number n 7"))

    def test_a_fact_taken_back(self):
        told = [new_case(lines(*HEAD, "fact port(B)", "fact over(A,B)", "fact late")), fact(1, 0, "over(A,B)")]
        self.assertEqual(self.back(*told), lines(*HEAD, "fact port(B)", "fact late"))
        told.append(fact(1, 1, "over(A,B)"))
        self.assertEqual(self.back(*told), lines(*HEAD, "fact port(B)", "fact late", "fact over(A,B)"))
        told += [fact(1, 0, "port(B)"), fact(1, 0, "late"), fact(1, 0, "over(A,B)")]
        self.assertEqual(self.back(*told), lines(*HEAD))

    def test_numbers_told_anew_and_newly(self):
        told = [new_case(lines(*HEAD, "number n 7", "number m 8")), number(1, 0, "k")]
        self.assertEqual(self.back(*told), lines(*HEAD, "number n 7", "number m 8", "number k 0"))
        told += [number(1, 1000000, "n"), number(1, 8, "m"), number(1, 1, "a")]
        self.assertEqual(self.back(*told), lines(*HEAD, "number n 1000000", "number m 8", "number k 0", "number a 1"))

    def test_refusals_leave_it_as_it_is(self):
        told = lines(*HEAD, "fact port(B)", "number n 7")
        calls = [new_case(told), fact(1, 1, "port(B)"), fact(1, 0, "late"), fact(1, 2, "late"), fact(1, 1, "port(C)"),
                 number(1, -1, "n"), number(1, 1000001, "k"), number(1, 1, "k k"), number(1, 1, "")]
        self.assertEqual(self.back(*calls), told)

    def test_what_holds_by_a_rule_is_no_fact_and_rules_are_not_written(self):
        told = [book(), new_case(), holds(1, "broke(Ada)"), proof(1, "broke(Ada)"), rule(1, 1, 0),
                suppose(1, 1, "clear(Ada)"), suppose(1, 0, "port(Ada)"), written(1)]
        self.assertEqual(text(last(*told)), CASE)

    def test_what_is_written_back_is_that_case(self):
        told = new_case(lines(*HEAD, "fact port(B)", "fact late", "number n 7"))
        first = last(book(BOOK), told, fact(1, 0, "port(B)"), fact(1, 1, "over(B,B)"), number(1, 3, "m"), written(1))
        self.assertEqual(run(book(BOOK), new_case(first), written(1)), [[3, 0], [1], first])

    def test_each_case_its_own(self):
        other = "case d\nboat Z\nfact port(Z)\n"
        calls = [book(BOOK), new_case(lines(*HEAD)), new_case(other), fact(1, 1, "late"), number(2, 4, "n")]
        self.assertEqual(text(last(*calls, written(1))), lines(*HEAD, "fact late"))
        self.assertEqual(text(last(*calls, written(2))), other + "number n 4\n")

    def test_60_facts_and_8_numbers(self):
        preds = ["pred p%d 2" % each for each in range(4)]
        facts = ["fact p%d(%s,%s)" % (one, two, three) for three in "dcba" for two in "badc" for one in range(4)]
        told = lines("case c", *["boat " + each for each in "dbac"], *facts[:60],
                     *["number n%d %d" % (each, each) for each in range(8, 0, -1)])
        self.assertEqual(text(last(book(lines("book b", *preds)), new_case(told), written(1))), told)


class OneCaseTouchesNoOther(unittest.TestCase):
    def test_facts_numbers_and_rules(self):
        told = run(book(), new_case(), new_case(), fact(1, 0, "port(Ada)"), fact(1, 1, "clear(Bo)"),
                   number(1, 0, "finish"), rule(1, 3, 0), number(1, 9, "extra"),
                   every(2, 1), every(2, 4), every(2, 6), holds(2, "heard"), rule(2, 3, 1), number(2, 3, "extra"),
                   number(2, 50, "finish"), fact(2, 1, "clear(Bo)"))
        self.assertEqual(told[8:], [[1, 1, 0], [0], [1, 1, 0], [1], [-5], [0], [50], [4]])

    def test_a_case_opened_later_is_as_its_text_says(self):
        told = run(book(), new_case(), fact(1, 0, "port(Ada)"), rule(1, 1, 0), number(1, 1, "filed"), new_case(CASE),
                   every(2, 1), rule(2, 1, 1), number(2, 1, "filed"), every(1, 1))
        self.assertEqual(told[5:], [[2], [1, 1, 0], [-5], [100], [0]])


if __name__ == "__main__":
    unittest.main()
