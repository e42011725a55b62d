"""The rule book: what is right and wrong in it, rings, what is written back, layers."""

import unittest

from tests.helper import BOOK, book, holds, last, layers, lines, new_case, padded, printed, run, text

HEAD = ("book b", "pred late 0", "pred port 1", "pred over 2")


def answered(*told):
    return last(book(lines(*HEAD, *told)))


class Right(unittest.TestCase):
    def written(self, told, expected):
        self.assertEqual(text(last(book(told), printed())), expected)

    def test_an_ordinary_book(self):
        self.assertEqual(last(book()), [7, 3])
        self.written(BOOK, BOOK)

    def test_a_book_of_one_line(self):
        self.assertEqual(run(book("book b\n"), printed(), layers()), [[0, 0], list(b"book b\n"), []])

    def test_the_last_line_without_its_end(self):
        self.written("book b", "book b\n")
        self.written("book b\npred p 0", "book b\npred p 0\n")
        self.assertEqual(last(book("book b\npred p 0\nrule p")), [1, 1])

    def test_blanks_between_and_around_words(self):
        self.written("   book   b  \n pred  p   1 \n  rule   p(X)    if  p(X)   when  a  <=   b  +  7  ",
                     "book b\npred p 1\nrule p(X) if p(X) when a <= b + 7\n")

    def test_lines_that_stand_for_nothing(self):
        self.written("\n   \n# book c\n  #book c\n#\nbook b\n\n#!\"$%&'*./:;>?@[\\]^_`{|}~ \n\n", "book b\n")

    def test_a_remark_at_a_line_s_end_is_none(self):
        self.assertEqual(answered("pred p 0 # p"), [-1005])

    def test_written_back_in_the_document_s_order(self):
        told = lines("pred one 1", "penalty one A", "pred nil 0", "rule one(X) if one(X)", "valid nil", "pred two 2",
                     "penalty one B", "rule nil", "book b", "rule two(X,Y) differ Y X")
        self.assertEqual(last(book(told)), [3, 3])
        self.written(told, lines("book b", "pred one 1", "pred nil 0", "pred two 2", "rule one(X) if one(X)",
                                 "rule nil", "rule two(X,Y) differ Y X", "valid nil", "penalty one A",
                                 "penalty one B"))

    def test_without_valid_and_penalties(self):
        self.written(lines(*HEAD, "rule late"), lines(*HEAD, "rule late"))

    def test_all_kinds_of_conditions_in_one_rule(self):
        line = "rule port(X) when a <= b + 1000000 unless late if over(Z,X) differ X Z when c < d if late"
        self.assertEqual(answered(line), [3, 1])
        self.written(lines(*HEAD, line), lines(*HEAD, line))

    def test_the_forms_of_when(self):
        for form in ("a < b", "a <= b", "a < b + 1", "a <= b + 1", "a < b + 1000000", "a < a", "0 < -", "if < unless",
                     "port <= late + 10", "A-b-9 < abcdefghijkl + 999999"):
            with self.subTest(form=form):
                self.assertEqual(answered("rule late when " + form), [3, 1])
                self.assertEqual(answered("rule late when " + form + " if late"), [3, 1])
                self.assertEqual(answered("rule late if late when " + form), [3, 1])

    def test_both_places_one_variable(self):
        self.assertEqual(answered("rule over(Z,Z) if over(X,X)"), [3, 1])

    def test_names(self):
        for name in ("a", "Z", "0", "-", "--", "12", "abcdefghijkl", "A-9", "000000000000", "if", "X"):
            with self.subTest(name=name):
                self.written(lines("book " + name, "pred " + name + " 1", "penalty " + name + " " + name),
                             lines("book " + name, "pred " + name + " 1", "penalty " + name + " " + name))

    def test_predicates_called_like_other_words(self):
        told = lines("book b", "pred if 0", "pred rule 1", "rule if if if", "rule rule(X) unless if")
        self.assertEqual(last(book(told)), [2, 2])
        self.written(told, told)

    def test_bounds_that_are_met(self):
        preds = ["pred p%d %d" % (each, each % 3) for each in range(16)]
        rules = ["rule p0" + " if p0" * 6] * 24
        penalties = ["penalty p1 c"] * 6
        told = lines("book b", *preds, *rules, "valid p0", *penalties)
        self.assertEqual(last(book(told)), [16, 24])
        self.written(told, told)

    def test_the_new_book_takes_the_old_one_s_place(self):
        told = run(book(), new_case(), holds(1, "heard"), book("book c\npred heard 0\n"), printed(), holds(1, "heard"),
                   new_case("case two\nboat B\n"), holds(1, "heard"), holds(2, "heard"))
        self.assertEqual(told, [[7, 3], [1], [1], [1, 0], list(b"book c\npred heard 0\n"), [-2], [1], [0], [-2]])


class Wrong(unittest.TestCase):
    def test_empty_texts(self):
        for told, line in (("", 1), ("\n", 2), ("\n\n\n", 4), ("   ", 2), ("# book b", 2), ("# book b\n", 2)):
            with self.subTest(told=told):
                self.assertEqual(last(book(told)), [-1000 - line])

    def test_no_line_book(self):
        self.assertEqual(last(book("pred p 0\nrule p\n")), [-1003])
        self.assertEqual(last(book("pred p 0\nrule p")), [-1003])

    def test_the_first_line(self):
        for line in ("books b", "book", "book b c", "book abcdefghijklm", "book a_b", "book a.b", "book a%b", "Book b",
                     "b", "book b#", "book (b)", "book b ,", "boat b", "case b", "bookb", "book b 1"):
            with self.subTest(line=line):
                self.assertEqual(last(book(line + "\nbook b\n")), [-1001])
                self.assertEqual(last(book(line)), [-1001])

    def test_the_first_of_several_wrong_lines(self):
        self.assertEqual(last(book("book b\n\n# x\nnonsense\nmore\n")), [-1004])
        self.assertEqual(last(book("pred p 3\nbook b\nmore\n")), [-1001])

    def test_a_wrong_line_comes_ahead_of_a_wrong_whole(self):
        self.assertEqual(last(book("pred p 0\nrule p unless p\nnonsense\npred q 0\n")), [-1003])

    def test_bytes_that_are_not_plain(self):
        for byte in (0, 9, 13, 31, 127, 128, 160, 196, 255):
            with self.subTest(byte=byte):
                sign = bytes([byte])
                self.assertEqual(last(book(b"#" + sign + b"\nbook b\n")), [-1001])
                self.assertEqual(last(book(b"book b\n# a remark " + sign)), [-1002])
                self.assertEqual(last(book(b"book b\n\n" + sign + b"\n")), [-1003])
                self.assertEqual(last(book(b"book b\n " + sign + b" # x\n")), [-1002])
                self.assertEqual(last(book(b"book b" + sign + b"\n")), [-1001])
                self.assertEqual(last(book(b"book" + sign + b"b\n")), [-1001])

    def test_plain_bytes_at_the_edges_in_a_remark(self):
        self.assertEqual(last(book("# ~ ~ \nbook b\n")), [0, 0])

    def test_bytes_of_lines_ended_otherwise(self):
        self.assertEqual(last(book("book b\r\npred p 0\r\n")), [-1001])
        self.assertEqual(last(book("book\tb\n")), [-1001])

    def test_lines_told_too_often(self):
        self.assertEqual(answered("book b"), [-1005])
        self.assertEqual(answered("book c"), [-1005])
        self.assertEqual(answered("valid late", "valid late"), [-1006])
        self.assertEqual(answered("pred late 1"), [-1005])
        self.assertEqual(answered("pred late 0"), [-1005])

    def test_predicates(self):
        for told in ("pred", "pred p", "pred p 3", "pred p 00", "pred p 01", "pred p -1", "pred p x", "pred p 1 1",
                     "pred p(X) 1", "pred abcdefghijklm 0", "pred p, 0", "pred p +1", "pred p 1000000"):
            with self.subTest(told=told):
                self.assertEqual(answered(told), [-1005])
                self.assertEqual(answered("rule late", told, "rule late"), [-1006])

    def test_atoms_of_rules(self):
        wrong = ("late()", "late(X)", "late(", "late)", "port", "port()", "port(X", "port(X,Y)", "portX", "port(x)",
                 "port(W)", "port(X)X", "port(X))", "port((X)", "port(X,)", "port(,X)", "over(X)", "over(X,Y,Z)",
                 "over(X,Y", "over(XY)", "over(X;Y)", "over(,)", "over(X,,Y)", "nobody", "nobody(X)", "(X)", "()",
                 "Late", "port(1)", "port[X]", "#late", "port(XX", "port(X]", "over(X,YZ", "over(X,Y]", "port(X,",
                 "port(X)(X)", "port(XX)", "port(%)", "over(X,W)", "over(W,X)")
        for atom in wrong:
            with self.subTest(atom=atom):
                self.assertEqual(answered("rule " + atom), [-1005])
                self.assertEqual(answered("rule late if " + atom), [-1005])
                self.assertEqual(answered("rule late unless " + atom), [-1005])
                self.assertEqual(answered("rule late if late unless " + atom + " if late"), [-1005])

    def test_atoms_split_by_blanks(self):
        for told in ("rule port (X)", "rule port( X )", "rule over(X, Y)", "rule over(X ,Y)"):
            with self.subTest(told=told):
                self.assertEqual(answered(told), [-1005])

    def test_rules(self):
        for told in ("rule", "rule late late", "rule late if", "rule late unless", "rule late if late late",
                     "rule late and late", "rule if late", "rule late If late", "rule late if late if",
                     "rule late when", "rule late differ", "rule late if if late", "rule late unless if late",
                     "rule late differ if late", "rule late when if late", "rule late differ differ X Y",
                     "rule late when when a < b", "rule late if when a < b", "rule late unless differ X Y"):
            with self.subTest(told=told):
                self.assertEqual(answered(told), [-1005])

    def test_differ(self):
        for told in ("differ X X", "differ Y Y", "differ X", "differ", "differ X W", "differ W X", "differ x Y",
                     "differ X,Y", "differ X if late", "differ X Y Z", "differ a b"):
            with self.subTest(told=told):
                self.assertEqual(answered("rule late " + told), [-1005])

    def test_when(self):
        for told in ("a", "a <", "a < ", "a > b", "a >= b", "a = b", "a == b", "a =< b", "a<b", "a < b +", "a < b + 0",
                     "a < b + 01", "a < b + 1000001", "a < b + 10000000", "a < b + x", "a < b - 1", "a < b +1",
                     "a < b+1", "a < b 1", "a + 1 < b", "a < b + 1 + 1", "abcdefghijklm < b", "a < abcdefghijklm",
                     "a_ < b", "a < b_", "a < b + -1", "a < b < c", "< b", "a < + 1", "a <= b + 0",
                     "a <= b + 1000001"):
            with self.subTest(told=told):
                self.assertEqual(answered("rule late when " + told), [-1005])
                self.assertEqual(answered("rule late if late when " + told), [-1005])

    def test_valid(self):
        for told in ("valid", "valid port", "valid over", "valid nobody", "valid late late", "valid late()",
                     "valid port(X)"):
            with self.subTest(told=told):
                self.assertEqual(answered(told), [-1005])

    def test_penalty(self):
        for told in ("penalty", "penalty port", "penalty late A", "penalty over A", "penalty nobody A",
                     "penalty port A B", "penalty port(X) A", "penalty port abcdefghijklm", "penalty port A.",
                     "penalty A port"):
            with self.subTest(told=told):
                self.assertEqual(answered(told), [-1005])

    def test_a_predicate_is_told_before_it_is_used(self):
        for told in ("rule p", "rule late if p", "rule late unless p", "valid p"):
            with self.subTest(told=told):
                self.assertEqual(answered(told, "pred p 0"), [-1005])
                self.assertEqual(answered("pred p 0", told), [4, 0 if told == "valid p" else 1])
        self.assertEqual(answered("penalty q A", "pred q 1"), [-1005])
        self.assertEqual(answered("pred q 1", "penalty q A"), [4, 0])

    def test_other_lines(self):
        for told in ("boat B", "fact late", "number a 1", "case c", "vali late", "valids late", "Valid late",
                     "preds p 0", "Pred p 0", "penalties port A", "Penalty port A", "Rule late", "rules late", "late",
                     "port port A", "0 p 0"):
            with self.subTest(told=told):
                self.assertEqual(answered(told), [-1005])


class Bounds(unittest.TestCase):
    def test_the_17th_predicate(self):
        told = ["book b"] + ["pred p%d 0" % each for each in range(16)]
        self.assertEqual(last(book(lines(*told))), [16, 0])
        self.assertEqual(last(book(lines(*told, "pred q 0"))), [-1018])

    def test_the_25th_rule(self):
        self.assertEqual(answered(*["rule late"] * 24), [3, 24])
        self.assertEqual(answered(*["rule late"] * 25), [-1029])

    def test_the_7th_condition(self):
        for condition in (" if late", " unless late", " differ X Y", " when a < b", " when a <= b + 2"):
            with self.subTest(condition=condition):
                self.assertEqual(answered("rule port(X)" + condition * 6), [3, 1])
                self.assertEqual(answered("rule port(X)" + condition * 7), [-1005])
        mixed = " if late unless late differ X Y when a < b when a < b + 1 if port(X)"
        self.assertEqual(answered("rule over(X,Y)" + mixed), [3, 1])
        self.assertEqual(answered("rule over(X,Y)" + mixed + " unless port(Z)"), [-1005])

    def test_the_7th_penalty(self):
        self.assertEqual(answered(*["penalty port A"] * 6), [3, 0])
        self.assertEqual(answered(*["penalty port A"] * 7), [-1011])

    def test_names_of_12_and_of_13_letters(self):
        good, bad = "abcdefghijk-", "abcdefghijk-1"
        self.assertEqual(last(book(lines("book " + good, "pred " + good + " 1", "penalty " + good + " " + good,
                                         "rule " + good + "(X) when " + good + " < " + good))), [1, 1])
        self.assertEqual(last(book("book " + bad)), [-1001])
        self.assertEqual(answered("pred " + bad + " 1"), [-1005])
        self.assertEqual(answered("penalty port " + bad), [-1005])
        self.assertEqual(answered("rule late when " + bad + " < a"), [-1005])
        self.assertEqual(answered("rule late when a < " + bad), [-1005])

    def test_numbers(self):
        for number, right in (("1", True), ("1000000", True), ("1000001", False), ("9999999", False),
                              ("10000000", False), ("01", False), ("0000001", False), ("0", False), ("00", False)):
            with self.subTest(number=number):
                self.assertEqual(answered("rule late when a < b + " + number), [3, 1] if right else [-1005])

    def test_4000_bytes_and_4001(self):
        self.assertEqual(run(book(padded(BOOK, 4000)), printed()), [[7, 3], list(BOOK.encode())])
        self.assertEqual(last(book(padded(BOOK, 4001))), [-8])
        self.assertEqual(last(book(padded("nonsense\n", 4000))), [-1001])
        self.assertEqual(last(book(padded("nonsense\n", 4001))), [-8])
        self.assertEqual(last(book("\n" * 4000)), [-5001])
        self.assertEqual(last(book("\n" * 5000)), [-8])


class Rings(unittest.TestCase):
    preds = ("book b", "pred a 0", "pred b 0", "pred c 0", "pred d 1", "pred e 1")

    def ring(self, *rules):
        answer = last(book(lines(*self.preds, *rules)))
        if answer == [5, len(rules)]:
            return False
        self.assertEqual(answer, [-1000 - len(self.preds) - len(rules) - 1])
        return True

    def test_of_one_predicate(self):
        self.assertTrue(self.ring("rule a unless a"))
        self.assertTrue(self.ring("rule d(X) unless d(Y)"))
        self.assertTrue(self.ring("rule a if b unless c if a unless a"))

    def test_of_several_predicates(self):
        self.assertTrue(self.ring("rule a unless b", "rule b unless a"))
        self.assertTrue(self.ring("rule a unless b", "rule b if a"))
        self.assertTrue(self.ring("rule a if b", "rule b unless a"))
        self.assertTrue(self.ring("rule a if b", "rule b if c", "rule c unless a"))
        self.assertTrue(self.ring("rule c if a", "rule b if c", "rule a unless b"))
        self.assertTrue(self.ring("rule a if b", "rule b unless c", "rule c if d(X)", "rule d(X) if e(X)",
                                  "rule e(X) if a"))

    def test_behind_other_predicates(self):
        self.assertTrue(self.ring("rule a if b", "rule b if c", "rule c if d(X)", "rule d(X) unless c"))
        self.assertTrue(self.ring("rule a if a", "rule b if a", "rule a unless b"))

    def test_through_an_inner_ring_of_if(self):
        self.assertTrue(self.ring("rule a if b", "rule b if a", "rule b if c", "rule c if b", "rule c unless a"))

    def test_if_alone_is_no_fault(self):
        self.assertFalse(self.ring("rule a if a"))
        self.assertFalse(self.ring("rule a if b", "rule b if a"))
        self.assertFalse(self.ring("rule a if b", "rule b if c", "rule c if a"))

    def test_an_unless_beside_a_ring_is_no_fault(self):
        self.assertFalse(self.ring("rule a if b", "rule b if a", "rule a unless c"))
        self.assertFalse(self.ring("rule a if b", "rule b if a", "rule c unless a"))
        self.assertFalse(self.ring("rule a unless b", "rule a unless c", "rule b unless c"))
        self.assertFalse(self.ring("rule a unless b", "rule c unless b", "rule d(X) unless a", "rule d(X) unless c"))

    def test_rules_that_can_never_count_make_a_ring_too(self):
        self.assertTrue(self.ring("rule a unless a when x < x"))

    def test_the_line_behind_a_text_without_its_last_end(self):
        self.assertEqual(last(book("book b\npred a 0\nrule a unless a")), [-1004])
        self.assertEqual(last(book("book b\npred a 0\nrule a unless a\n")), [-1004])
        self.assertEqual(last(book("book b\npred a 0\nrule a unless a\n\n# x\n")), [-1006])


class Layers(unittest.TestCase):
    def layered(self, rules, expected):
        preds = ["pred %s 0" % name for name in "abcdef"]
        self.assertEqual(last(book(lines("book b", *preds, *rules)), layers()), expected)

    def test_without_rules(self):
        self.layered([], [0, 0, 0, 0, 0, 0])
        self.assertEqual(run(book("book b"), layers()), [[0, 0], []])

    def test_of_several_heights(self):
        self.layered(["rule a unless b", "rule b unless c", "rule c unless d"], [3, 2, 1, 0, 0, 0])
        self.layered(["rule d unless c", "rule c unless b", "rule b unless a"], [0, 1, 2, 3, 0, 0])

    def test_if_keeps_the_layer(self):
        self.layered(["rule a if b", "rule b if c", "rule c unless d"], [1, 1, 1, 0, 0, 0])
        self.layered(["rule f if e", "rule e if d", "rule d unless a"], [0, 0, 0, 1, 1, 1])

    def test_a_ring_of_if_has_one_layer(self):
        self.layered(["rule a if b", "rule b if c", "rule c if a", "rule b unless d", "rule e unless a"],
                     [1, 1, 1, 0, 2, 0])

    def test_the_highest_of_several_conditions_and_rules(self):
        self.layered(["rule a unless b unless c", "rule c unless d", "rule a if d"], [2, 0, 1, 0, 0, 0])
        self.layered(["rule a if c unless b", "rule c unless d", "rule d unless e"], [2, 0, 2, 1, 0, 0])
        self.layered(["rule a unless b", "rule c if a if b unless b"], [1, 0, 1, 0, 0, 0])

    def test_fifteen_layers_up(self):
        preds = ["pred p%d 0" % each for each in range(16)]
        rules = ["rule p%d unless p%d" % (each + 1, each) for each in range(15)]
        self.assertEqual(last(book(lines("book b", *preds, *rules)), layers()), list(range(16)))
        self.assertEqual(last(book(lines("book b", *preds, *reversed(rules))), layers()), list(range(16)))

    def test_they_do_not_change_with_the_cases(self):
        told = run(book(), layers(), new_case(), [6, 1, 2, 0], layers())
        self.assertEqual(told[1], told[4])


if __name__ == "__main__":
    unittest.main()
