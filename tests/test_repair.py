import unittest

from helper import BRACKETS, LEAST, REPAIR, ask, costs, load, repair_answer, text


def repair(grammar, signs, prices=(1, 1, 1)):
    return ask(load(*grammar), costs(*prices), text(signs), REPAIR)[3]


class Repairs(unittest.TestCase):
    def told(self, rules, signs, told, prices=(1, 1, 1), nonterminals=1):
        with self.subTest(rules=rules, signs=signs, prices=prices):
            self.assertEqual(repair((nonterminals, rules), signs, prices), repair_answer(told))


class Told(Repairs):
    def test_the_documents_examples(self):
        self.assertEqual(repair(BRACKETS, "(a"), [0, 1, 97])
        self.assertEqual(repair(BRACKETS, "(a", (1, 2, 2)), [0, 3, 40, 97, 41])

    def test_nothing_is_read(self):
        self.assertEqual(ask(REPAIR), [[1]])
        self.assertEqual(repair((1, [(0, [0])]), "a"), [1])
        self.assertEqual(repair((2, [(0, [1, "a"]), (1, [1, 1])]), ""), [1])

    def test_a_text_that_is_read_stays(self):
        for signs in ("a", "(a)", "((((a))))"):
            self.told(BRACKETS[1], signs, signs)

    def test_the_text_without_bytes(self):
        self.told([(0, [])], "", "")
        self.told([(0, [])], "abc", "")
        self.told([(0, ["a", "b"])], "", "ab")

    def test_asking_again_tells_the_same_and_the_text_is_still_held(self):
        got = ask(load(*BRACKETS), text("(("), REPAIR, REPAIR, LEAST, REPAIR)
        self.assertEqual(got[2:], [got[2], got[2], [0, 2], got[2]])

    def test_new_costs_texts_and_grammars_are_gone_by(self):
        got = ask(load(*BRACKETS), text("(a"), REPAIR, costs(1, 2, 2), REPAIR, text("a)"), REPAIR,
                  load(1, [(0, ["b"])]), REPAIR)
        self.assertEqual([got[k][2:] for k in (2, 4, 6, 8)], [[97], [40, 97, 41], [40, 97, 41], [98]])


class Ranges(Repairs):
    rule = [(0, ["mp"])]

    def test_no_byte_within_the_range(self):
        for signs in ("", "x", "l", "q", "xyz", "lq" * 6):
            for prices in ((1, 1, 1), (1, 1, 9), (9, 9, 1)):
                self.told(self.rule, signs, "m", prices)

    def test_one_byte_within_the_range(self):
        for signs, byte in (("m", "m"), ("p", "p"), ("xn", "n"), ("nx", "n"), ("lloqq", "o")):
            self.told(self.rule, signs, byte)

    def test_the_first_of_several_is_kept(self):
        for signs, byte in (("pm", "p"), ("mp", "m"), ("xonm", "o"), ("lqnlpqm", "n")):
            self.told(self.rule, signs, byte)
            self.told(self.rule, signs, byte, (1, 9, 1))


class EquallyCheap(Repairs):
    def test_the_way_whose_first_piece_ends_earlier(self):
        self.told([(0, ["az", "az"])], "abc", "ab")
        self.told([(0, ["az", "az"])], "b", "ab")
        self.told([(0, ["ab", "ab", "ab"])], "b", "aab")

    def test_then_the_way_whose_second_piece_does(self):
        self.told([(0, ["x", "az", "az"])], "xabc", "xab")
        self.told([(0, ["x", "ab", "ab"])], "xb", "xab")

    def test_what_is_left_is_left_out_at_the_end(self):
        self.told([(0, [1, 1]), (1, ["az"])], "abcd", "ab", nonterminals=2)

    def test_a_later_piece_if_that_is_cheaper(self):
        self.told([(0, ["az", "c"])], "abc", "ac")
        self.told([(0, ["bz", "az"])], "abc", "bc")

    def test_the_earlier_of_two_rules_in_one_round(self):
        self.told([(0, ["b"]), (0, ["a"])], "", "b")
        self.told([(0, ["a"]), (0, ["b"])], "", "a")
        self.told([(0, ["c"]), (0, ["b"]), (0, ["a"])], "xy", "c")

    def test_a_later_rule_if_it_is_cheaper(self):
        self.told([(0, ["a", "a"]), (0, ["b"])], "", "b")
        self.told([(0, ["a"]), (0, ["b"])], "b", "b")

    def test_the_rule_of_an_earlier_round(self):
        self.told([(0, [1]), (0, ["b"]), (1, ["a"])], "", "b", nonterminals=2)
        self.told([(0, [1]), (1, [2]), (2, ["a"]), (0, [3]), (3, ["c"])], "", "c", nonterminals=4)

    def test_a_round_goes_by_the_cells_ahead_of_it(self):
        self.told([(1, ["a"]), (0, [1]), (0, ["b"])], "", "b", nonterminals=2)

    def test_a_later_round_if_it_is_cheaper(self):
        self.told([(0, [1]), (0, ["b"]), (1, ["a"])], "a", "a", nonterminals=2)
        self.told([(0, ["x", "y"]), (0, [1]), (1, ["a"])], "", "a", nonterminals=2)

    def test_a_cell_stays_when_an_earlier_way_gets_as_cheap(self):
        # Round 2 finds bcc: 1 over the b, 2 over nothing. Two rounds later 1 puts in
        # a lone d, and 1 over nothing, 2 over the b is as cheap, but not cheaper.
        rules = [(0, [1, 2]), (2, ["c"]), (1, ["b", "c"]), (1, [3]), (3, [4]), (4, ["d"])]
        self.told(rules, "b", "bcc", nonterminals=5)

    def test_rings_are_told_once_round_at_most(self):
        self.told([(0, [1]), (1, [0]), (1, ["a", 0]), (1, ["b"])], "aab", "aab", nonterminals=2)
        self.told([(0, [0, 0]), (0, []), (0, ["a"])], "aaa", "aaa")

    def test_it_is_always_the_same(self):
        grammar = (2, [(0, [1, 1, 1]), (1, ["ac"]), (1, ["bd"]), (1, [1, 1])])
        first = repair(grammar, "zazdzb")
        for again in range(5):
            self.assertEqual(repair(grammar, "zazdzb"), first)


def empty_nodes(children):
    """Rules over the text without bytes: a tree of as many nonterminals as told."""
    return [(a + 1, inner) for a, inner in enumerate(children)]


class TooLong(Repairs):
    # Sizes in nonterminals: 1: 1, 2: 9, 3: 73, 4: 585, 5: 23, 6: 243.
    tree = empty_nodes([[], [1] * 8, [2] * 8, [3] * 8, [2, 2, 1, 1, 1, 1], [3, 3, 3, 5]])

    def test_64_bytes_are_told(self):
        self.told([(0, [1] * 8), (1, ["a"] * 8)], "", "a" * 64, nonterminals=2)

    def test_65_bytes_are_not(self):
        rules = [(0, [1] * 7 + [2]), (1, ["a"] * 8), (2, ["a"] * 7 + [3]), (3, ["b"] * 2)]
        self.assertEqual(repair((4, rules), ""), [-6])
        self.assertEqual(repair((4, rules), "a" * 12), [-6])
        self.told(rules[:3] + [(3, ["b"])], "", "a" * 63 + "b", nonterminals=4)

    def test_bytes_left_out_do_not_count(self):
        self.told([(0, [1] * 8), (1, ["a"] * 8)], "b" * 12, "a" * 64, (1, 1, 9), nonterminals=2)

    def test_3999_steps_are_told(self):
        # 1999 nonterminals and as many rules' ends, and a range.
        self.told([(0, [4, 4, 4, 6, "x"])] + self.tree, "", "x", nonterminals=7)
        self.told([(0, ["x", 4, 4, 4, 6])] + self.tree, "", "x", nonterminals=7)

    def test_3998_steps_are_told(self):
        self.told([(0, [4, 4, 4, 6])] + self.tree, "", "", nonterminals=7)

    def test_4000_steps_are_not(self):
        self.assertEqual(repair((7, [(0, [4, 4, 4, 6, 1])] + self.tree), ""), [-6])
        self.assertEqual(repair((7, [(0, [4, 4, 4, 6, "x", "y"])] + self.tree), ""), [-6])
        self.assertEqual(repair((7, [(0, ["x", "y", 4, 4, 4, 6])] + self.tree), ""), [-6])

    def test_more_steps_than_could_be_walked(self):
        rules = [(a, [a + 1] * 8) for a in range(19)] + [(19, [])]
        got = ask(load(20, rules), LEAST, REPAIR, REPAIR)
        self.assertEqual(got[1:], [[0, 0], [-6], [-6]])

    def test_what_is_left_out_takes_one_step_with_the_rules_end(self):
        self.told([(0, [4, 4, 4, 6, "x"])] + self.tree, "abcdefabcdef", "x", nonterminals=7)

    def test_a_refusal_leaves_the_object_as_it_was(self):
        grammar = load(2, [(0, [1] * 8), (1, ["a"] * 8)])
        longer = load(3, [(0, [1] * 8), (1, [2, 2]), (2, ["a"] * 5)])
        got = ask(longer, costs(2, 3, 4), text("ab"), REPAIR, LEAST, REPAIR, grammar, LEAST)
        self.assertEqual(got[3:], [[-6], [0, 2 * 78 + 4], [-6], [0], [0, 2 * 62 + 4]])


if __name__ == "__main__":
    unittest.main()
