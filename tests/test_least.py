import unittest

from helper import BRACKETS, LEAST, ask, costs, load, text


def least(grammar, signs, prices=(1, 1, 1)):
    return ask(load(*grammar), costs(*prices), text(signs), LEAST)[3]


class NothingIsRead(unittest.TestCase):
    def test_the_new_object(self):
        self.assertEqual(ask(LEAST), [[1]])
        self.assertEqual(ask(text("abc"), LEAST), [[0], [1]])

    def test_grammars_that_read_nothing(self):
        grammars = {
            "no rules": (1, []),
            "a rule of itself alone": (1, [(0, [0])]),
            "no end": (1, [(0, ["a", 0])]),
            "a ring": (3, [(0, [1]), (1, [2]), (2, [0])]),
            "rules of others alone": (2, [(1, ["a"]), (1, [])]),
            "a symbol without rules": (2, [(0, ["a", 1])]),
            "a ring of 20": (20, [(a, ["x", (a + 1) % 20]) for a in range(20)]),
        }
        for name, grammar in grammars.items():
            for signs in ("", "a", "abcabcabcabc"):
                with self.subTest(name, signs=signs):
                    self.assertEqual(least(grammar, signs), [1])

    def test_a_refused_call_between(self):
        self.assertEqual(ask(LEAST, costs(0, 0, 0), LEAST), [[1], [-5], [1]])


class TheCost(unittest.TestCase):
    def test_the_documents_example(self):
        self.assertEqual(least(BRACKETS, "(a"), [0, 1])
        self.assertEqual(least(BRACKETS, "(a", (1, 2, 2)), [0, 1])

    def test_a_text_that_is_read_costs_nothing(self):
        for signs in ("a", "(a)", "((a))", "(((((a)))))"):
            with self.subTest(signs):
                self.assertEqual(least(BRACKETS, signs, (9, 9, 9)), [0, 0])

    def test_brackets(self):
        for signs, cost in (("", 1), ("()", 1), ("((a)", 1), ("(a))", 1), ("aaa", 2), (")a(", 2), ("((((((a)))))", 1)):
            with self.subTest(signs):
                self.assertEqual(least(BRACKETS, signs), [0, cost])

    def test_rules_without_symbols(self):
        self.assertEqual(least((1, [(0, [])]), ""), [0, 0])
        self.assertEqual(least((1, [(0, [])]), "abcd", (9, 7, 9)), [0, 28])
        self.assertEqual(least((1, [(0, []), (0, ["a", 0])]), "aaab", (9, 7, 5)), [0, 5])
        self.assertEqual(least((2, [(0, [1, 1, "a", 1]), (1, [])]), "bab", (9, 2, 9)), [0, 4])

    def test_rings_of_nonterminals(self):
        ring = (3, [(0, [1]), (1, [2]), (2, [0]), (2, ["a"])])
        self.assertEqual(least(ring, "a"), [0, 0])
        self.assertEqual(least(ring, "ab"), [0, 1])
        doubled = (2, [(0, [0, 0]), (0, [1]), (1, [0]), (1, ["a"]), (1, [1, 1])])
        self.assertEqual(least(doubled, "aaaaaaaaaaaa"), [0, 0])
        self.assertEqual(least(doubled, "aaabaaacaaaa", (9, 2, 3)), [0, 4])

    def test_a_ring_that_takes_many_rounds(self):
        rules = [(a, [a + 1]) for a in range(19)] + [(19, ["a", 0]), (19, ["b"])]
        self.assertEqual(least((20, rules), "aaaaaaaaaaab", (9, 9, 9)), [0, 0])
        self.assertEqual(least((20, rules), "baaaaaaaaaab", (9, 9, 9)), [0, 9])

    def test_ring_rules_in_an_order_that_is_of_no_help(self):
        rules = [(19, ["a", 0]), (19, ["b"])] + [(a, [a + 1]) for a in reversed(range(19))]
        self.assertEqual(least((20, list(reversed(rules))), "aaaaaaaaaaab"), [0, 0])

    def test_a_very_dear_repair(self):
        rules = [(a, [a + 1] * 8) for a in range(19)] + [(19, ["a"] * 8)]
        self.assertEqual(least((20, rules), "", (9, 1, 1)), [0, 9 * 8 ** 20])
        self.assertEqual(least((20, rules), "a" * 12, (9, 1, 1)), [0, 9 * (8 ** 20 - 12)])

    def test_costs_change_which_repair_is_cheapest(self):
        grammar = (1, [(0, ["a", "b", "c", "d"]), (0, [])])
        self.assertEqual(least(grammar, "ab", (1, 9, 9)), [0, 2])
        self.assertEqual(least(grammar, "ab", (9, 1, 9)), [0, 2])
        self.assertEqual(least(grammar, "xbcd", (9, 9, 2)), [0, 2])
        self.assertEqual(least(grammar, "xbcd", (2, 3, 9)), [0, 5])
        self.assertEqual(least(grammar, "xbcd", (9, 1, 9)), [0, 4])

    def test_replacing_against_putting_in_and_leaving_out(self):
        grammar = (1, [(0, ["a"])])
        self.assertEqual(least(grammar, "x", (2, 3, 4)), [0, 4])
        self.assertEqual(least(grammar, "x", (2, 3, 5)), [0, 5])
        self.assertEqual(least(grammar, "x", (2, 3, 6)), [0, 5])
        self.assertEqual(least(grammar, "xyz", (2, 3, 4)), [0, 10])
        self.assertEqual(least(grammar, "xyz", (2, 3, 9)), [0, 11])

    def test_all_bytes_are_told_apart(self):
        for byte in (0, 1, 127, 128, 255):
            row = [1, 1, 0, 1, 1, byte, byte]
            for other in (0, 1, 127, 128, 255):
                got = ask([0, len(row)] + row, [2, 1, other], LEAST)[2]
                self.assertEqual(got, [0, 0 if byte == other else 1])

    def test_asking_changes_nothing(self):
        got = ask(load(*BRACKETS), text("(("), LEAST, LEAST, [4], LEAST)
        self.assertEqual([got[2], got[3], got[5]], [[0, 2]] * 3)


if __name__ == "__main__":
    unittest.main()
