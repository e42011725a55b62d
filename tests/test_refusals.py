"""Refusals: each of each call, which comes first, and that nothing changes by one."""

import unittest

from tests.helper import (BOOK, CASE, book, check, counts, decide, decision, every, fact, holds, last, layers, lines,
                          new_case, number, padded, penalties, printed, proof, rule, run, stands, support, suppose,
                          written)

BIG = 1000000000000000000
NO_CASES = (0, 2, -1, BIG, -BIG)
NO_ATOMS = ("", "nobody", "port", "port(Cy)", "port(Ada,Bo)", "port()", "heard()", "heard(Ada)", "meets(Ada)",
            "meets(Ada,Bo,Ada)", "meets(Ada;Bo)", "port(X)", "port(ada)", " heard", "heard ", "heard\n", "port( Ada)",
            "meets(Ada, Bo)", "fact heard", "port(Ada)\x00", "port(Ad\xe1)", "# heard", "port(Ada) port(Ada)", "heard%",
            "%", "port(%)", "port(Ada", "port(Ada]", "port(Adaa", "meets(Ada,Bo", "meets(Ada,Bo]", "p" * 5000)
NO_NAMES = ("", "abcdefghijklm", "a b", " a", "a ", "a_", "a(b)", "a\n", "\xe1", "a,b", "#", "a%", "<", "+", "a" * 5000)


def behind(*calls):
    """What the last call answers behind the book and the case."""
    return last(book(), new_case(), *calls)


class NoBook(unittest.TestCase):
    def test_ahead_of_all_else(self):
        for call in (printed(), layers(), new_case(), new_case(""), new_case("x" * 5000), fact(1, 1, "heard"),
                     fact(0, 7, ""), number(1, 1, "a"), number(-5, -5, "_"), rule(1, 1, 1), rule(0, 0, 9),
                     holds(1, "heard"), holds(0, ""), every(1, 1), every(0, 0), proof(1, "heard"), proof(-1, ""),
                     check(1, [0, 0]), check(0, []), check(1, [-1]), support(1, "heard"), support(0, ""),
                     penalties(1), penalties(0), suppose(1, 1, "heard"), suppose(0, 7, ""), decide(1), decide(0),
                     stands(1), stands(0), decision(1), decision(-1), written(1), written(0), counts()):
            with self.subTest(call=call[:4]):
                self.assertEqual(run(call), [[-1]])
                self.assertEqual(run(book("wrong"), call), [[-1001], [-1]])
                self.assertEqual(run(call, call), [[-1], [-1]])

    def test_a_book_that_is_refused_is_none(self):
        self.assertEqual(run(book("x" * 4001), printed(), book("pred p 0"), printed(), book("book b"), printed()),
                         [[-8], [-1], [-1002], [-1], [0, 0], list(b"book b\n")])


class Book(unittest.TestCase):
    def test_refused_books_change_nothing(self):
        for bad, refusal in ((padded(BOOK, 4001), -8), ("nonsense", -1001),
                             ("book c\npred p 0\nrule p unless p", -1004), ("book c\npred p 9\n", -1002), ("", -1001)):
            with self.subTest(refusal=refusal):
                told = run(book(), new_case(), book(bad), printed(), layers(), every(1, 6), new_case())
                self.assertEqual(told[2:], [[refusal], list(BOOK.encode()), [0, 0, 0, 0, 0, 1, 0], [1, 1, 0], [2]])


class Open(unittest.TestCase):
    def test_too_long_comes_ahead_of_no_room_and_a_wrong_text(self):
        full = [book()] + [new_case()] * 6
        self.assertEqual(last(*full, new_case("x" * 4001)), [-8])
        self.assertEqual(last(*full, new_case(padded(CASE, 4001))), [-8])
        self.assertEqual(last(book(), new_case("x" * 4001)), [-8])

    def test_no_room_comes_ahead_of_a_wrong_text(self):
        full = [book()] + [new_case()] * 6
        self.assertEqual(last(*full, new_case("x" * 4000)), [-4])
        self.assertEqual(last(*full, new_case("")), [-4])
        self.assertEqual(last(*full, new_case()), [-4])
        self.assertEqual(last(book(), new_case("x" * 4000)), [-1001])

    def test_refused_cases_change_nothing(self):
        full = [book()] + [new_case()] * 6
        self.assertEqual(run(*full, new_case(), every(6, 6), every(7, 6))[7:], [[-4], [1, 1, 0], [-2]])
        self.assertEqual(run(book(), new_case("case c"), every(1, 1), new_case())[1:], [[-1002], [-2], [1]])

    def test_there_is_room_again_with_a_new_book(self):
        full = [book()] + [new_case()] * 6
        self.assertEqual(run(*full, book(), new_case())[7:], [[7, 3], [1]])


class Fact(unittest.TestCase):
    def test_no_case(self):
        for case in NO_CASES:
            with self.subTest(case=case):
                self.assertEqual(behind(fact(case, 1, "clear(Bo)")), [-2])
                self.assertEqual(behind(fact(case, 2, "clear(Bo)")), [-2])
                self.assertEqual(behind(fact(case, 1, "nobody")), [-2])
                self.assertEqual(behind(fact(case, 1, "port(Ada)")), [-2])

    def test_out_of_range(self):
        for value in (2, -1, BIG, -BIG):
            with self.subTest(value=value):
                self.assertEqual(behind(fact(1, value, "clear(Bo)")), [-10])
                self.assertEqual(behind(fact(1, value, "nobody")), [-10])
                self.assertEqual(behind(fact(1, value, "port(Ada)")), [-10])

    def test_no_atom(self):
        for atom in NO_ATOMS:
            with self.subTest(atom=atom[:20]):
                self.assertEqual(behind(fact(1, 1, atom)), [-3])
                self.assertEqual(behind(fact(1, 0, atom)), [-3])

    def test_so_already(self):
        self.assertEqual(behind(fact(1, 1, "port(Ada)")), [-5])
        self.assertEqual(behind(fact(1, 0, "port(Bo)")), [-5])

    def test_what_holds_by_a_rule_alone_is_no_fact(self):
        self.assertEqual(behind(fact(1, 0, "broke(Ada)")), [-5])
        self.assertEqual(behind(fact(1, 1, "broke(Ada)")), [4])

    def test_no_room(self):
        full = self.full()
        self.assertEqual(last(*full, fact(1, 1, "p3(d,a)")), [-4])
        self.assertEqual(last(*full, fact(1, 1, "p3(d,x)")), [-3])
        self.assertEqual(last(*full, fact(1, 3, "p3(d,a)")), [-10])
        self.assertEqual(last(*full, fact(2, 1, "p3(d,a)")), [-2])

    def test_so_already_comes_ahead_of_no_room(self):
        full = self.full()
        self.assertEqual(last(*full, fact(1, 1, "p0(a,a)")), [-5])
        self.assertEqual(last(*full, fact(1, 0, "p3(d,a)")), [-5])

    def test_there_is_room_again_when_one_is_taken_back(self):
        told = run(*self.full(), fact(1, 0, "p0(a,a)"), fact(1, 1, "p3(d,a)"), fact(1, 1, "p0(a,a)"), every(1, 4))
        self.assertEqual(told[2:6], [[59], [60], [-4], [13] + [1, 1, 1, 2, 1, 3, 1, 4, 2, 1, 2, 2, 2, 3, 2, 4,
                                                             3, 1, 3, 2, 3, 3, 3, 4, 4, 1]])

    def test_the_60th(self):
        full = self.full()
        self.assertEqual(last(*full, fact(1, 0, "p2(b,c)")), [59])
        self.assertEqual(last(*full, fact(1, 0, "p2(b,c)"), fact(1, 1, "p2(b,c)")), [60])

    def full(self):
        preds = ["pred p%d 2" % each for each in range(4)]
        boats = ["boat " + each for each in "abcd"]
        facts = ["fact p%d(%s,%s)" % (one, two, three) for one in range(4) for two in "abcd" for three in "abcd"]
        return [book(lines("book b", *preds)), new_case(lines("case c", *boats, *facts[:60]))]


class Number(unittest.TestCase):
    def test_no_case(self):
        for case in NO_CASES:
            with self.subTest(case=case):
                self.assertEqual(behind(number(case, 1, "a")), [-2])
                self.assertEqual(behind(number(case, -1, "a")), [-2])
                self.assertEqual(behind(number(case, 1, "_")), [-2])

    def test_out_of_range(self):
        for value in (-1, 1000001, BIG, -BIG):
            with self.subTest(value=value):
                self.assertEqual(behind(number(1, value, "a")), [-10])
                self.assertEqual(behind(number(1, value, "_")), [-10])
                self.assertEqual(behind(number(1, value, "filed")), [-10])

    def test_no_name(self):
        for name in NO_NAMES:
            with self.subTest(name=name[:20]):
                self.assertEqual(behind(number(1, 1, name)), [-3])

    def test_no_room(self):
        full = [number(1, each, "n%d" % each) for each in range(6)]
        self.assertEqual(run(book(), new_case(), *full)[2:], [[0]] * 6)
        self.assertEqual(behind(*full, number(1, 1, "m")), [-4])
        self.assertEqual(behind(*full, number(1, 1, "_")), [-3])
        self.assertEqual(behind(*full, number(1, -1, "m")), [-10])
        self.assertEqual(behind(*full, number(2, 1, "m")), [-2])
        self.assertEqual(behind(*full, number(1, 1, "n5")), [5])
        self.assertEqual(behind(*full, number(1, 1, "filed")), [100])


class Rule(unittest.TestCase):
    def test_no_case(self):
        for case in NO_CASES:
            with self.subTest(case=case):
                self.assertEqual(behind(rule(case, 1, 0)), [-2])
                self.assertEqual(behind(rule(case, 9, 9)), [-2])
                self.assertEqual(behind(rule(case, 1, 1)), [-2])

    def test_no_rule(self):
        for which in (0, 4, -1, BIG, -BIG):
            with self.subTest(which=which):
                self.assertEqual(behind(rule(1, which, 0)), [-6])
                self.assertEqual(behind(rule(1, which, 1)), [-6])
                self.assertEqual(behind(rule(1, which, 2)), [-6])

    def test_out_of_range(self):
        for value in (2, -1, BIG, -BIG):
            with self.subTest(value=value):
                self.assertEqual(behind(rule(1, 1, value)), [-10])
                self.assertEqual(behind(rule(1, 1, 0), rule(1, 1, value)), [-10])

    def test_so_already(self):
        for which in (1, 2, 3):
            with self.subTest(which=which):
                self.assertEqual(behind(rule(1, which, 1)), [-5])
                self.assertEqual(behind(rule(1, which, 0), rule(1, which, 0)), [-5])
                self.assertEqual(behind(rule(1, which, 0), rule(1, which, 1), rule(1, which, 1)), [-5])
                self.assertEqual(behind(rule(1, which, 0), rule(1, which, 1), rule(1, which, 0)), [0])


class Asking(unittest.TestCase):
    def test_holds_and_proof_no_case(self):
        for case in NO_CASES:
            with self.subTest(case=case):
                for ask in (holds, proof):
                    self.assertEqual(behind(ask(case, "heard")), [-2])
                    self.assertEqual(behind(ask(case, "nobody")), [-2])

    def test_holds_and_proof_no_atom(self):
        for atom in NO_ATOMS:
            with self.subTest(atom=atom[:20]):
                self.assertEqual(behind(holds(1, atom)), [-3])
                self.assertEqual(behind(proof(1, atom)), [-3])

    def test_all_no_case(self):
        for case in NO_CASES:
            with self.subTest(case=case):
                self.assertEqual(behind(every(case, 1)), [-2])
                self.assertEqual(behind(every(case, 0)), [-2])

    def test_all_no_predicate(self):
        for predicate in (0, 8, -1, BIG, -BIG):
            with self.subTest(predicate=predicate):
                self.assertEqual(behind(every(1, predicate)), [-6])

    def test_atoms_are_those_of_the_case_asked_for(self):
        other = new_case("case two\nboat Cy\n")
        told = run(book(), new_case(), other, holds(2, "port(Ada)"), holds(1, "port(Cy)"), holds(2, "port(Cy)"),
                   proof(2, "port(Ada)"), fact(2, 1, "port(Ada)"), fact(2, 1, "port(Cy)"))
        self.assertEqual(told[3:], [[-3], [-3], [0], [-3], [-3], [1]])


class Check(unittest.TestCase):
    def test_no_case(self):
        for case in NO_CASES:
            for numbers in ([0, 0], [], [0], [-1], [1000001, 0], [0] * 600, [1, 0, 1, 1, 0, 0, 0, 0, 0]):
                with self.subTest(case=case, numbers=numbers[:9]):
                    self.assertEqual(behind(check(case, numbers)), [-2])

    def test_no_certificate(self):
        for numbers in ([], [0], [1, 0], [0, 0, 0], [0, -1], [-1, 0], [0, 1000001], [BIG, 0], [0, -BIG], [0] * 600):
            with self.subTest(numbers=numbers[:9]):
                self.assertEqual(behind(check(1, numbers)), [-9])


class Support(unittest.TestCase):
    def test_no_case(self):
        for case in NO_CASES:
            with self.subTest(case=case):
                self.assertEqual(behind(support(case, "heard")), [-2])
                self.assertEqual(behind(support(case, "nobody")), [-2])

    def test_no_atom(self):
        for atom in NO_ATOMS:
            with self.subTest(atom=atom[:20]):
                self.assertEqual(behind(support(1, atom)), [-3])


class Suppose(unittest.TestCase):
    def test_no_case(self):
        for case in NO_CASES:
            with self.subTest(case=case):
                self.assertEqual(behind(suppose(case, 1, "clear(Bo)")), [-2])
                self.assertEqual(behind(suppose(case, 2, "clear(Bo)")), [-2])
                self.assertEqual(behind(suppose(case, 0, "nobody")), [-2])
                self.assertEqual(behind(suppose(case, -1, "nobody")), [-2])

    def test_out_of_range(self):
        for value in (2, -1, BIG, -BIG):
            with self.subTest(value=value):
                self.assertEqual(behind(suppose(1, value, "clear(Bo)")), [-10])
                self.assertEqual(behind(suppose(1, value, "port(Ada)")), [-10])
                self.assertEqual(behind(suppose(1, value, "nobody")), [-10])

    def test_no_atom(self):
        for atom in NO_ATOMS:
            with self.subTest(atom=atom[:20]):
                self.assertEqual(behind(suppose(1, 1, atom)), [-3])
                self.assertEqual(behind(suppose(1, 0, atom)), [-3])

    def test_it_is_never_so_already(self):
        self.assertEqual(behind(suppose(1, 1, "port(Ada)")), [1, 1, 1, 0])
        self.assertEqual(behind(suppose(1, 0, "port(Bo)")), [1, 1, 1, 0])


class Decisions(unittest.TestCase):
    def test_penalties_decide_and_case_no_case(self):
        for case in NO_CASES:
            for ask in (penalties, decide, written):
                with self.subTest(case=case, ask=ask.__name__):
                    self.assertEqual(behind(ask(case)), [-2])
                    self.assertEqual(behind(decide(1), ask(case)), [-2])

    def test_no_case_comes_ahead_of_no_room(self):
        full = [decide(1)] * 20
        for case in NO_CASES:
            with self.subTest(case=case):
                self.assertEqual(behind(*full, decide(case)), [-2])
        self.assertEqual(behind(*full, decide(1)), [-4])
        self.assertEqual(behind(*full, penalties(1)), [1, 1, 1, 0])

    def test_no_decision(self):
        for made in range(3):
            for which in (0, -1, made + 1, made + 2, 21, BIG, -BIG):
                with self.subTest(made=made, which=which):
                    self.assertEqual(behind(*[decide(1)] * made, stands(which)), [-7])
                    self.assertEqual(behind(*[decide(1)] * made, decision(which)), [-7])

    def test_no_decision_though_a_case_of_this_number(self):
        self.assertEqual(behind(new_case(), decide(1), stands(2)), [-7])
        self.assertEqual(behind(new_case(), decide(2), decision(2)), [-7])
        self.assertEqual(behind(decide(1), decide(1), stands(2)), [1])
        self.assertEqual(behind(decide(1), decide(1), penalties(2)), [-2])

    def test_without_cases(self):
        for call in (penalties(1), decide(1), written(1), check(1, [0, 0]), support(1, "heard"),
                     suppose(1, 1, "heard")):
            with self.subTest(call=call[:2]):
                self.assertEqual(last(book(), call), [-2])


class NothingChanges(unittest.TestCase):
    asked = [printed(), layers(), *[every(1, each) for each in range(1, 8)], proof(1, "broke(Ada)"), proof(1, "heard"),
             proof(1, "broke(Bo)"), support(1, "broke(Ada)"), penalties(1), suppose(1, 1, "clear(Ada)"), stands(1),
             decision(1), written(1), counts()]

    def test_by_refusals(self):
        refused = [(fact(1, 2, "clear(Ada)"), -10), (fact(1, 1, "clear(Cy)"), -3), (fact(1, 1, "port(Ada)"), -5),
                   (fact(1, 0, "clear(Ada)"), -5), (fact(2, 1, "clear(Ada)"), -2), (number(1, -1, "filed"), -10),
                   (number(1, 1000001, "filed"), -10), (number(2, 1, "filed"), -2), (number(1, 1, "filed "), -3),
                   (rule(1, 1, 1), -5), (rule(1, 0, 0), -6), (rule(1, 4, 0), -6), (rule(1, 1, 2), -10),
                   (rule(2, 1, 0), -2), (new_case("x"), -1001), (new_case("x" * 4001), -8), (book("x"), -1001),
                   (book("x" * 4001), -8), (holds(1, "x"), -3), (every(1, 8), -6), (proof(2, "heard"), -2),
                   (check(1, [0]), -9), (check(2, [0, 0]), -2), (support(1, "x"), -3), (support(2, "heard"), -2),
                   (penalties(2), -2), (suppose(2, 1, "clear(Ada)"), -2), (suppose(1, 2, "clear(Ada)"), -10),
                   (suppose(1, 1, "clear(Cy)"), -3), (decide(2), -2), (stands(2), -7), (decision(0), -7),
                   (written(2), -2)]
        opened = [book(), new_case(), decide(1)]
        before = run(*opened, *self.asked)[3:]
        for call, refusal in refused:
            with self.subTest(call=call[:3], refusal=refusal):
                told = run(*opened, call, *self.asked)
                self.assertEqual(told[3], [refusal])
                self.assertEqual(told[4:], before)

    def test_by_a_case_and_a_decision_without_room(self):
        opened = [book(), *[new_case()] * 6, *[decide(1)] * 20]
        before = run(*opened, *self.asked)[27:]
        told = run(*opened, new_case(), decide(1), *self.asked)[27:]
        self.assertEqual(told, [[-4], [-4]] + before)

    def test_by_a_number_without_room(self):
        full = [number(1, each, "n%d" % each) for each in range(6)]
        told = run(book(), new_case(), *full, number(1, 7, "m"), number(1, 0, "n3"), number(1, 0, "m"))
        self.assertEqual(told[8:], [[-4], [3], [-4]])

    def test_by_asking(self):
        opened = [book(), new_case(), decide(1)]
        before = run(*opened, *self.asked)[3:]
        asking = [holds(1, "broke(Ada)"), check(1, [0, 0]), check(1, [1, 0, 1, 1, 0, 0, 0, 0, 1, 1, 2, 0]),
                  check(1, [0, 1, 1, 1, 0]), suppose(1, 1, "broke(Bo)"), suppose(1, 0, "port(Ada)"),
                  suppose(1, 0, "clear(Ada)"), suppose(1, 1, "port(Ada)"), *self.asked]
        for call in asking:
            with self.subTest(call=call[:4]):
                self.assertEqual(run(*opened, call, *self.asked)[4:], before)
        self.assertEqual(run(*opened, *asking, *self.asked)[3 + len(asking):], before)


if __name__ == "__main__":
    unittest.main()
