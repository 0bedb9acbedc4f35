import unittest

from helper import BRACKETS, CHANGES, LEAST, REPAIR, ask, changes_answer, costs, load, text, text_row
from leastrepairs.mending import answers


def changes(grammar, signs, prices=(1, 1, 1)):
    return ask(load(*grammar), costs(*prices), text(signs), CHANGES)[3]


class Told(unittest.TestCase):
    def told(self, rules, signs, told, prices=(1, 1, 1), nonterminals=1):
        with self.subTest(rules=rules, signs=signs, prices=prices):
            self.assertEqual(changes((nonterminals, rules), signs, prices), changes_answer(*told))

    def test_the_documents_examples(self):
        self.assertEqual(changes(BRACKETS, "(a"), [0, 1, 1, 0, 0])
        self.assertEqual(changes(BRACKETS, "(a", (1, 2, 2)), [0, 1, 2, 2, 41])

    def test_how_many_numbers_are_told_ahead(self):
        line = load(*BRACKETS) + text("(a") + CHANGES + costs(1, 2, 2) + CHANGES
        self.assertEqual(answers(line), [1, 0, 1, 0, 5, 0, 1, 1, 0, 0, 1, 0, 5, 0, 1, 2, 2, 41])

    def test_nothing_is_read(self):
        self.assertEqual(ask(CHANGES), [[1]])
        self.assertEqual(ask(text("abc"), CHANGES), [[0], [1]])
        self.assertEqual(changes((1, [(0, ["a", 0])]), "aaa"), [1])

    def test_nothing_is_changed(self):
        for signs in ("a", "(a)", "((((a))))"):
            self.told(BRACKETS[1], signs, [])
        self.told([(0, [])], "", [])

    def test_left_out_ahead_of_and_behind_a_kept_byte(self):
        self.told([(0, ["mp"])], "xxnyz", [(1, 0, ""), (1, 1, ""), (1, 3, ""), (1, 4, "")])
        self.told([(0, ["mp"])], "pm", [(1, 1, "")])
        self.told([(0, ["mp"])], "xm", [(1, 0, "")])

    def test_the_first_byte_replaced_and_the_others_left_out(self):
        self.told([(0, ["mp"])], "x", [(3, 0, "m")])
        self.told([(0, ["mp"])], "xyz", [(3, 0, "m"), (1, 1, ""), (1, 2, "")])
        self.told([(0, ["k", "mp"])], "kx", [(3, 1, "m")])

    def test_replaced_against_put_in_and_left_out(self):
        put_in = [(2, 0, "m"), (1, 0, ""), (1, 1, ""), (1, 2, "")]
        self.told([(0, ["mp"])], "xyz", [(3, 0, "m"), (1, 1, ""), (1, 2, "")], (2, 3, 4))
        # Equally cheap: the way that gives the symbol the empty piece comes first.
        self.told([(0, ["mp"])], "xyz", put_in, (2, 3, 5))
        self.told([(0, ["mp"])], "xyz", put_in, (2, 3, 6))

    def test_one_put_in_where_nothing_is(self):
        self.told([(0, ["mp"])], "", [(2, 0, "m")])
        self.told([(0, ["a", "mp"])], "a", [(2, 1, "m")])
        self.told([(0, ["mp", "a"])], "a", [(2, 0, "m")])

    def test_several_put_in_at_one_place_in_their_order(self):
        self.told([(0, ["c", "a", "b"])], "", [(2, 0, "c"), (2, 0, "a"), (2, 0, "b")])
        self.told([(0, ["x", "c", "a", "b", "y"])], "xy", [(2, 1, "c"), (2, 1, "a"), (2, 1, "b")])
        self.told([(0, ["x", 1, 1]), (1, ["b", "a"])], "x", [(2, 1, "b"), (2, 1, "a")] * 2, nonterminals=2)

    def test_put_in_ahead_of_the_byte_left_out_at_the_same_place(self):
        self.told([(0, ["a", "b"])], "xb", [(2, 0, "a"), (1, 0, "")], (1, 1, 9))
        self.told([(0, ["a", "b", "c"])], "axyz", [(2, 1, "b"), (2, 1, "c"), (1, 1, ""), (1, 2, ""), (1, 3, "")],
                  (1, 1, 9))

    def test_what_a_rule_within_leaves_out(self):
        self.told([(0, ["(", 1, ")"]), (1, [])], "(ab)", [(1, 1, ""), (1, 2, "")], nonterminals=2)
        self.told([(0, [1, 1]), (1, ["az"])], "abcd", [(1, 2, ""), (1, 3, "")], nonterminals=2)
        self.told([(0, [1, "c"]), (1, ["a", "b"])], "axyc", [(3, 1, "b"), (1, 2, "")], nonterminals=2)

    def test_all_bytes(self):
        for byte in (0, 1, 127, 128, 255):
            row = [1, 1, 0, 1, 1, byte, byte]
            other = 255 - byte
            got = ask([0, len(row)] + row, CHANGES, text_row([other]), CHANGES, text_row([byte]), CHANGES)
            self.assertEqual(got[1::2], [[0, 1, 2, 0, byte], [0, 1, 3, 0, byte], [0, 0]])

    def test_a_text_of_12_bytes(self):
        self.told([(0, [])], "a" * 12, [(1, place, "") for place in range(12)])
        self.told([(0, ["a", 0]), (0, ["b"])], "a" * 12, [(3, 11, "b")])
        self.told([(0, ["a", 0]), (0, ["b"])], "a" * 12, [(2, 12, "b")], (1, 2, 2))


class Long(unittest.TestCase):
    eights = [(0, [1] * 8), (1, ["a"] * 8)]

    def test_as_many_changes_as_there_may_be(self):
        got = changes((2, self.eights), "b" * 12, (1, 1, 9))
        self.assertEqual(got[:2], [0, 76])
        self.assertEqual(len(got), 2 + 3 * 76)
        told = [tuple(got[k:k + 3]) for k in range(2, len(got), 3)]
        self.assertEqual(sorted(told), sorted([(1, place, 0) for place in range(12)] +
                                              [change for change in told if change[0] == 2 and change[2] == 97]))
        self.assertEqual([place for kind, place, byte in told], sorted(place for kind, place, byte in told))

    def test_64_bytes_are_told_and_65_are_not(self):
        self.assertEqual(changes((2, self.eights), ""), [0, 64] + [2, 0, 97] * 64)
        longer = [(0, [1] * 7 + [2]), (1, ["a"] * 8), (2, ["a"] * 7 + [3]), (3, ["b"] * 2)]
        self.assertEqual(changes((4, longer), ""), [-6])
        self.assertEqual(changes((4, longer), "a" * 12), [-6])

    def test_too_many_steps(self):
        rules = [(a, [a + 1] * 8) for a in range(19)] + [(19, [])]
        self.assertEqual(changes((20, rules), ""), [-6])
        self.assertEqual(changes((20, rules), "abc"), [-6])

    def test_a_refusal_leaves_the_object_as_it_was(self):
        longer = load(3, [(0, [1] * 8), (1, [2, 2]), (2, ["a"] * 5)])
        got = ask(longer, text("ab"), CHANGES, LEAST, load(1, [(0, ["a"])]), CHANGES)
        self.assertEqual(got[2:], [[-6], [0, 79], [0], [0, 1, 1, 1, 0]])


class Asking(unittest.TestCase):
    def test_it_changes_nothing(self):
        got = ask(load(*BRACKETS), text("(a"), CHANGES, CHANGES, REPAIR, LEAST, CHANGES)
        self.assertEqual(got[2:], [[0, 1, 1, 0, 0]] * 2 + [[0, 1, 97], [0, 1], [0, 1, 1, 0, 0]])

    def test_new_costs_texts_and_grammars_are_gone_by(self):
        got = ask(load(*BRACKETS), text("(a"), CHANGES, costs(1, 2, 2), CHANGES, text("a)"), CHANGES,
                  load(1, [(0, [])]), CHANGES)
        self.assertEqual(got[2::2], [[0, 1, 1, 0, 0], [0, 1, 2, 2, 41], [0, 1, 2, 0, 40], [0, 2, 1, 0, 0, 1, 1, 0]])


if __name__ == "__main__":
    unittest.main()
