"""How calls are handed in and answers given back."""

import unittest

from protesthall.desk import answers
from tests.helper import (BOOK, CASE, book, certificate, check, counts, decide, decision, every, fact, found, holds,
                          joined, layers, new_case, number, padded, penalties, printed, proof, rule, stands, support,
                          suppose, written)

CALLS = [book(), printed(), layers(), new_case(), fact(1, 1, "clear(Bo)"), number(1, 200, "filed"), rule(1, 1, 0),
         holds(1, "heard"), every(1, 4), proof(1, "heard"), check(1, [1, 0, 1, 1, 0, 0, 0, 0, 1, 7, 0, 0]),
         support(1, "port(Ada)"), penalties(1), suppose(1, 1, "heard"), decide(1), stands(1), decision(1), written(1),
         counts(), holds(2, "heard")]
ANSWERS = [[7, 3], list(BOOK.encode()), [0, 0, 0, 0, 0, 1, 0], [1], [4], [100], [0], [0], [1, 2, 0],
           [0, 0, 1, 7, 0, 0], [0], [1, 1, 1, 0, 0], [0, 0, 0], [1, 0, 0], [1], [1], [1, 0, 0, 0],
           list(CASE.replace("number filed 100", "fact clear(Bo)\nnumber filed 200").encode()), [7, 3, 1, 1], [-2]]


def framed(told):
    return joined([[len(answer)] + answer for answer in told])


class Interface(unittest.TestCase):
    def test_each_call_once_the_whole_list_of_answers(self):
        self.assertEqual(answers(joined(CALLS)), framed(ANSWERS))

    def test_each_call_right_behind_the_book_and_the_case(self):
        expected = {
            1: list(BOOK.encode()),
            2: [0, 0, 0, 0, 0, 1, 0],
            4: [4],
            5: [100],
            6: [0],
            7: [1],
            8: [0],
            9: [1, 1, 3, 7, 0, 0, 0, 0, 0, 0],
            10: [2],
            11: [1, 1, 1, 0, 0],
            12: [1, 1, 1, 0],
            13: [1, 1, 1, 0],
            14: [1],
            15: [-7],
            16: [-7],
            17: list(CASE.encode()),
            18: [7, 3, 1, 0],
        }
        for place, answer in expected.items():
            with self.subTest(call=place):
                told = answers(book() + new_case() + CALLS[place])
                self.assertEqual(told, framed([[7, 3], [1], answer]))

    def test_an_answer_without_numbers_is_its_count_alone(self):
        self.assertEqual(answers(book("book b\n") + layers() + layers()), [2, 0, 0, 0, 0])

    def test_a_refusal_is_one_number_alone(self):
        self.assertEqual(answers(printed()), [1, -1])
        self.assertEqual(answers(book("") + book("book b") + holds(1, "p")), [1, -1001, 2, 0, 0, 1, -2])

    def test_rows_without_numbers(self):
        told = answers(book() + new_case() + fact(1, 1, "") + number(1, 1, "") + holds(1, "") + proof(1, "")
                       + new_case("") + check(1, []) + support(1, "") + suppose(1, 1, "") + holds(1, "heard"))
        self.assertEqual(told, [2, 7, 3, 1, 1, 1, -3, 1, -3, 1, -3, 1, -3, 1, -1001, 1, -9, 1, -3, 1, -3, 1, 1])

    def test_the_list_handed_in_is_the_same_afterwards(self):
        calls = joined(CALLS)
        answers(calls)
        self.assertEqual(calls, joined(CALLS))

    def test_the_list_is_only_read(self):
        class ReadOnly(list):
            def refuse(self, *args, **kwargs):
                raise AssertionError("the list handed in was changed")
            append = extend = insert = pop = remove = clear = sort = reverse = refuse
            __setitem__ = __delitem__ = __iadd__ = __imul__ = refuse

        self.assertEqual(answers(ReadOnly(joined(CALLS))), framed(ANSWERS))

    def test_what_is_given_back_is_a_list_of_whole_numbers(self):
        told = answers(joined(CALLS))
        self.assertIs(type(told), list)
        self.assertEqual({type(value) for value in told}, {int})

    def test_the_same_list_twice_gives_the_same_answers(self):
        calls = joined(CALLS)
        first = answers(calls)
        kept = list(first)
        second = answers(calls)
        self.assertEqual(second, kept)
        self.assertEqual(first, kept)

    def test_nothing_is_kept_from_one_time_to_the_next(self):
        answers(joined(CALLS))
        self.assertEqual(answers(printed()), [1, -1])
        self.assertEqual(answers(book() + holds(1, "heard")), [2, 7, 3, 1, -2])
        self.assertEqual(answers(book() + new_case() + every(1, 4) + rule(1, 1, 1)), [2, 7, 3, 1, 1, 1, 0, 1, -5])

    def test_what_is_given_back_may_be_changed(self):
        first = answers(book() + printed() + layers())
        kept = list(first)
        first.clear()
        self.assertEqual(answers(book() + printed() + layers()), kept)

    def test_a_hundred_calls(self):
        calls = book() + new_case() + joined([proof(1, "broke(Ada)")] * 98)
        told = answers(calls)
        one = answers(book() + new_case() + proof(1, "broke(Ada)"))[5:]
        self.assertEqual(told, [2, 7, 3, 1, 1] + one * 98)

    def test_a_hundred_calls_of_all_sorts(self):
        calls = CALLS * 5
        told = answers(joined(calls))
        self.assertEqual(len(calls), 100)
        self.assertEqual(told, framed(ANSWERS * 5))

    def test_16000_numbers(self):
        many = certificate([found(1, 1)] * 85, [(1, 1, 0)])
        calls = [book(padded(BOOK, 4000)), new_case(padded(CASE, 4000)), check(1, many), holds(1, "p" * 5000),
                 decide(1), stands(1)]
        size = 16000 - len(joined(calls)) - 4 - len(counts())
        calls += [suppose(1, 1, "p" * size), counts()]
        handed = joined(calls)
        kept = list(handed)
        self.assertEqual(len(handed), 16000)
        expected = framed([[7, 3], [1], [86], [-3], [1], [1], [-3], [7, 3, 1, 1]])
        self.assertEqual(answers(handed), expected)
        self.assertEqual(handed, kept)
        self.assertEqual(answers(handed), expected)

    def test_numbers_of_each_size(self):
        big = 1000000000000000000
        for value in (big, -big):
            with self.subTest(value=value):
                calls = [book(), new_case(), decide(1), fact(value, value, "heard"), fact(1, value, "heard"),
                         number(value, 1, "n"), number(1, value, "n"), rule(value, 1, 1), rule(1, value, 1),
                         rule(1, 1, value), holds(value, "heard"), every(value, 1), every(1, value),
                         proof(value, "heard"), check(value, [0, 0]), check(1, [value, value]), check(1, [value] * 600),
                         support(value, "heard"), penalties(value), suppose(value, 1, "heard"),
                         suppose(1, value, "heard"), decide(value), stands(value), decision(value), written(value),
                         counts()]
                refusals = [-2, -10, -2, -10, -2, -6, -10, -2, -2, -6, -2, -2, -9, -9, -2, -2, -2, -10, -2, -7, -7, -2]
                self.assertEqual(answers(joined(calls)),
                                 framed([[7, 3], [1], [1]] + [[each] for each in refusals] + [[7, 3, 1, 1]]))

    def test_a_case_s_text_may_stand_behind_any_call(self):
        told = answers(book() + layers() + new_case(CASE) + layers() + new_case(CASE))
        layer = [7, 0, 0, 0, 0, 0, 1, 0]
        self.assertEqual(told, [2, 7, 3] + layer + [1, 1] + layer + [1, 2])


if __name__ == "__main__":
    unittest.main()
