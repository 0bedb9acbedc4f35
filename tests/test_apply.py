import unittest

from helper import (APPLY, BRACKETS, CHANGES, LEAST, REPAIR, ask, changes_answer, cost, costs, distance_to, load,
                    repair_answer, text, way)
from leastrepairs.mending import answers

TWELVE = (2, [(0, [1, 1, 1]), (1, ["a"] * 4)])
THIRTEEN = (3, [(0, [1, 2, 2, 2]), (1, ["a"] * 4), (2, ["b"] * 3)])
SIXTY_FIVE = (4, [(0, [1] * 7 + [2]), (1, ["a"] * 8), (2, ["a"] * 7 + [3]), (3, ["b"] * 2)])


def after(grammar, signs, *asked, prices=(1, 1, 1)):
    return ask(load(*grammar), costs(*prices), text(signs), APPLY, *asked)[3:]


class Taken(unittest.TestCase):
    def test_the_repaired_text_is_held(self):
        self.assertEqual(after(BRACKETS, "(a", LEAST, REPAIR, distance_to("a")), [[0], [0, 0], [0, 1, 97], [0, 0]])
        got = after(BRACKETS, "(a", LEAST, REPAIR, distance_to("(a)"), prices=(1, 2, 2))
        self.assertEqual(got, [[0], [0, 0], [0, 3, 40, 97, 41], [0, 0]])

    def test_every_call_speaks_of_the_new_text(self):
        got = ask(load(*BRACKETS), costs(1, 2, 2), text("(a"), LEAST, REPAIR, CHANGES, way(0, 0, 2), cost(0, 0, 3),
                  distance_to("a"), APPLY,
                  LEAST, REPAIR, CHANGES, way(0, 0, 2), way(0, 0, 3), cost(0, 1, 2), cost(0, 3, 3), distance_to("a"))
        self.assertEqual(got[3:9], [[0, 1], repair_answer("(a)"), changes_answer((2, 2, ")")), [0, 1, 0, 3, 1, 2, 2],
                                    [-5], [0, 2]])
        self.assertEqual(got[9:], [[0], [0, 0], repair_answer("(a)"), [0, 0], [0, 1, 0, 3, 1, 2, 2],
                                   [0, 0, 0, 3, 1, 2, 3], [0, 0], [0, 1], [0, 4]])

    def test_a_shorter_text_has_fewer_places(self):
        got = after((1, [(0, [])]), "abc", cost(0, 0, 0), cost(0, 0, 1), cost(0, 3, 3), way(0, 0, 3))
        self.assertEqual(got, [[0], [0, 0], [-5], [-5], [-5]])

    def test_a_text_that_is_read_stays(self):
        self.assertEqual(after(BRACKETS, "((a))", distance_to("((a))"), CHANGES), [[0], [0, 0], [0, 0]])

    def test_the_text_without_bytes(self):
        self.assertEqual(after((1, [(0, [])]), "", LEAST, APPLY, REPAIR), [[0], [0, 0], [0], [0, 0]])
        self.assertEqual(after((1, [(0, ["a", "b"])]), "", LEAST, distance_to("ab")), [[0], [0, 0], [0, 0]])

    def test_just_12_bytes(self):
        self.assertEqual(after(TWELVE, "", LEAST, REPAIR), [[0], [0, 0], repair_answer("a" * 12)])
        self.assertEqual(after(TWELVE, "b" * 12, LEAST, REPAIR), [[0], [0, 0], repair_answer("a" * 12)])

    def test_twice(self):
        got = after(BRACKETS, "((", APPLY, APPLY, LEAST, REPAIR)
        self.assertEqual(got, [[0], [0], [0], [0, 0], repair_answer("a")])

    def test_twice_with_another_grammar_between(self):
        got = after(BRACKETS, "(a", load(1, [(0, ["a", "b"])]), LEAST, APPLY, REPAIR, LEAST, load(*BRACKETS), CHANGES)
        self.assertEqual(got, [[0], [0], [0, 1], [0], repair_answer("ab"), [0, 0], [0], changes_answer((1, 1, ""))])

    def test_costs_and_grammar_stay(self):
        got = after(BRACKETS, "(a", text("aa"), LEAST, text(""), LEAST, text("b"), LEAST, prices=(3, 4, 5))
        self.assertEqual(got[2::2], [[0, 4], [0, 3], [0, 5]])

    def test_the_cells_are_those_of_the_new_text_even_if_it_is_as_long(self):
        got = after((1, [(0, ["a", "b"])]), "ba", cost(0, 0, 1), cost(0, 0, 2), way(0, 1, 2), prices=(9, 9, 1))
        self.assertEqual(got, [[0], [0, 9], [0, 0], [0, 9, 0, 2, 1, 2]])

    def test_one_number_is_answered(self):
        self.assertEqual(answers([9]), [1, 1])
        self.assertEqual(answers([0, 4, 1, 1, 0, 0, 9, 9]), [1, 0, 1, 0, 1, 0])


class Refused(unittest.TestCase):
    def test_nothing_is_read(self):
        self.assertEqual(ask(APPLY), [[1]])
        self.assertEqual(after((1, []), "abc", distance_to("abc")), [[1], [0, 0]])
        self.assertEqual(after((2, [(0, [1, "a"]), (1, [1, 1])]), "b", distance_to("b"), APPLY), [[1], [0, 0], [1]])

    def test_13_bytes(self):
        self.assertEqual(after(THIRTEEN, ""), [[-3]])
        self.assertEqual(after(THIRTEEN, "aaaabbbbbbbb"), [[-3]])

    def test_64_bytes_are_too_many_and_65_are_too_long(self):
        self.assertEqual(after((2, [(0, [1] * 8), (1, ["a"] * 8)]), "", REPAIR), [[-3], repair_answer("a" * 64)])
        self.assertEqual(after(SIXTY_FIVE, "", REPAIR), [[-6], [-6]])

    def test_too_many_steps(self):
        rules = [(a, [a + 1] * 8) for a in range(19)] + [(19, [])]
        self.assertEqual(after((20, rules), "", LEAST), [[-6], [0, 0]])

    def test_a_refusal_leaves_the_text_as_it_was(self):
        for grammar, told in ((THIRTEEN, -3), (SIXTY_FIVE, -6), ((1, []), 1)):
            with self.subTest(told=told):
                got = after(grammar, "xby", distance_to("xby"), APPLY, load(1, [(0, ["b"])]), CHANGES,
                            prices=(2, 3, 4))
                self.assertEqual(got, [[told], [0, 0], [told], [0], changes_answer((1, 0, ""), (1, 2, ""))])

    def test_least_and_repair_go_on_after_a_refusal(self):
        got = after(THIRTEEN, "a", LEAST, REPAIR, cost(0, 0, 1), cost(0, 0, 2))
        self.assertEqual(got, [[-3], [0, 12], repair_answer("a" * 4 + "b" * 9), [0, 12], [-5]])


if __name__ == "__main__":
    unittest.main()
