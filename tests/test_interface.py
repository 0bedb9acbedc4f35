import inspect
import sys
import unittest

from helper import (APPLY, BRACKETS, CHANGES, LEAST, REPAIR, ask, costs, distance, distance_row, grammar_row, is_read,
                    load, load_row, text, text_row)
from leastrepairs.mending import answers

ROW = grammar_row(*BRACKETS)
LINE = [0, 17] + ROW + [2, 2, 40, 97, 3, 4, 1, 1, 2, 2, 4, 1, 0, 0, 0, 2, 1, 256, 0, 1, 5, 3]
TOLD = [1, 0, 1, 0, 2, 0, 1, 3, 0, 1, 97, 1, 0, 5, 0, 3, 40, 97, 41, 1, -5, 1, -1, 1, -2, 2, 0, 1]
LINE += [5, 6, 0, 1, 2, 7, 0, 0, 2, 8, 1, 97, 6, 1, 0, 2, 7, 0, 0, 3, 8, 1, 256, 9, 5, 8, 1, 97, 7, 0, 0, 3]
TOLD += [5, 0, 1, 2, 2, 41, 2, 0, 0, 7, 0, 1, 0, 3, 1, 2, 2, 2, 0, 2, 1, -4, 1, -5, 1, -1, 1, 0, 2, 0, 0, 2, 0, 4]
TOLD += [7, 0, 0, 0, 3, 1, 2, 3]


class Form(unittest.TestCase):
    def test_one_parameter(self):
        self.assertEqual(list(inspect.signature(answers).parameters), ["calls"])

    def test_several_calls_in_one_list(self):
        self.assertEqual(answers(LINE), TOLD)

    def test_each_call_alone(self):
        self.assertEqual(answers([0, 2, 1, 0]), [1, 0])
        self.assertEqual(answers([0, 0]), [1, -2])
        self.assertEqual(answers([1, 9, 9, 9]), [1, 0])
        self.assertEqual(answers([2, 0]), [1, 0])
        self.assertEqual(answers([2, 1, 7]), [1, 0])
        self.assertEqual(answers([3]), [1, 1])
        self.assertEqual(answers([4]), [1, 1])
        self.assertEqual(answers([5]), [1, 1])
        self.assertEqual(answers([6, 0, 0, 0]), [1, 1])
        self.assertEqual(answers([7, 0, 0, 0]), [1, 1])
        self.assertEqual(answers([8, 0]), [2, 0, 0])
        self.assertEqual(answers([8, 1, 7]), [2, 0, 1])
        self.assertEqual(answers([9]), [1, 1])

    def test_numbers_in_a_row_that_look_like_calls(self):
        self.assertEqual(answers([2, 3, 3, 4, 3, 3]), [1, 0, 1, 1])
        self.assertEqual(answers([0, 4, 3, 3, 3, 3, 3]), [1, -2, 1, 1])
        self.assertEqual(answers([1, 3, 4, 3, 4]), [1, 0, 1, 1])
        self.assertEqual(answers([6, 9, 9, 9, 9]), [1, -4, 1, 1])
        self.assertEqual(answers([7, 0, 9, 9, 9]), [1, -5, 1, 1])
        self.assertEqual(answers([8, 2, 9, 9, 9]), [2, 0, 2, 1, 1])

    def test_refused_rows_are_passed_by_whole(self):
        self.assertEqual(answers([2, 13] + [3] * 13 + [3]), [1, -3, 1, 1])
        self.assertEqual(answers([2, 2, -1, 3, 3]), [1, -1, 1, 1])
        self.assertEqual(answers([0, 3, -1, 3, 3, 3]), [1, -1, 1, 1])
        self.assertEqual(answers([8, 65] + [3] * 65 + [3]), [1, -3, 1, 1])
        self.assertEqual(answers([8, 2, -1, 3, 3]), [1, -1, 1, 1])

    def test_a_list_of_whole_numbers_comes_back(self):
        told = answers(LINE)
        self.assertIs(type(told), list)
        self.assertEqual({type(number) for number in told}, {int})


class WhatIsHandedIn(unittest.TestCase):
    def test_it_is_as_it_was(self):
        line = list(LINE)
        answers(line)
        self.assertEqual(line, LINE)

    def test_it_is_never_changed_for_a_while_either(self):
        class Watched(list):
            def changed(self, *rest):
                raise AssertionError("the list that was handed in is changed")

            __setitem__ = __delitem__ = __iadd__ = append = extend = insert = changed
            pop = remove = reverse = sort = clear = changed

        self.assertEqual(answers(Watched(LINE)), TOLD)

    def test_changing_the_answer_changes_nothing(self):
        answers(LINE).clear()
        self.assertEqual(answers(LINE), TOLD)


class NothingIsKept(unittest.TestCase):
    def test_a_second_time_answers_as_the_first(self):
        self.assertEqual([answers(LINE) for time in range(3)], [TOLD] * 3)

    def test_the_object_is_new_each_time(self):
        answers(load_row(ROW) + costs(9, 9, 9) + text("((("))
        self.assertEqual(answers([3]), [1, 1])
        self.assertEqual(ask(load(1, [(0, ["a"])]), LEAST), [[0], [0, 1]])


class Long(unittest.TestCase):
    def test_a_hundred_calls(self):
        calls = [load(*BRACKETS)] + [text("(" * (k % 13)) if k % 2 else LEAST for k in range(1, 100)]
        got = ask(*calls)
        self.assertEqual(len(got), 100)
        for k in range(2, 100, 2):
            # Half of the brackets are kept, a and what closes them is new.
            opened = (k - 1) % 13
            self.assertEqual(got[k], [0, opened // 2 + 1], k)

    def test_rows_of_2000_numbers(self):
        rows = [text_row([1] * 2000), load_row([1] * 2000), text_row([-1] * 2000), load_row([-1] * 2000),
                distance_row([1] * 2000), distance_row([-1] * 2000)]
        self.assertEqual(ask(*rows), [[-3], [-2], [-1], [-1], [-3], [-1]])

    def test_a_list_of_16000_numbers(self):
        line = (load_row([1] * 1998) * 8)[:14000] + text_row([7] * 1994) + [3, 3, 3, 3]
        self.assertEqual(len(line), 16000)
        self.assertEqual(answers(line), [1, -2] * 7 + [1, -3] + [1, 1] * 4)

    def test_the_largest_grammar_and_text(self):
        rules = [(a % 20, [(a + k + 1) % 20 if k % 2 else "az" for k in range(8)]) for a in range(40)]
        rules += [(a, ["09"] * 8) for a in range(20)]
        got = ask(load(20, rules), costs(9, 8, 7), text("0a1b2c3d4e5f"), LEAST, REPAIR)
        mended = "".join(chr(byte) for byte in got[4][2:])
        self.assertTrue(is_read(20, rules, mended))
        self.assertEqual(got[3], [0, distance("0a1b2c3d4e5f", mended, (9, 8, 7))])

    def test_deep_repairs_are_gone_through_by_loops(self):
        rules = [(a, [a + 1]) for a in range(19)] + [(19, ["a", 0]), (19, ["b"])]
        line = load(20, rules) + text("aaaaaaaaaaab") + REPAIR + CHANGES + APPLY
        before = sys.getrecursionlimit()
        sys.setrecursionlimit(len(inspect.stack()) + 30)
        try:
            told = answers(line)
        finally:
            sys.setrecursionlimit(before)
        self.assertEqual(told[4:], [14, 0, 12] + [97] * 11 + [98] + [2, 0, 0] + [1, 0])


if __name__ == "__main__":
    unittest.main()
