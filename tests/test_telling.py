import itertools
import unittest

from anewhall.pieces import answer_of, names_of, shown
from anewhall.reading import read
from helping import told

FIRMNESS = {"+": 3, "&": 2, "|": 1}


def askings(text, answer_for):
    """All that asking a text's recipe shows: its answer and its askings."""
    names = []

    def ask(name):
        names.append(name)
        return answer_for(name, len(names))

    answer = answer_of(read(text), ask)
    return answer, names


class TellingTest(unittest.TestCase):
    def assert_told(self, text, expected):
        with self.subTest(text=text):
            self.assertEqual(told(text), expected)
            self.assertEqual(told(expected), expected)
            self.assertEqual(names_of(read(text)), names_of(read(expected)))
            for answer_for in (
                lambda name, at: 0,
                lambda name, at: 30,
                lambda name, at: (7 * ord(name[0]) + 3 * at) % 31,
                lambda name, at: (ord(name[0]) + at) % 5,
                lambda name, at: ord(name[-1]) % 2 * 6,
            ):
                self.assertEqual(askings(text, answer_for), askings(expected, answer_for))

    def assert_stands(self, *texts):
        for text in texts:
            self.assert_told(text, text)

    def test_numbers_and_names(self):
        for number in range(31):
            self.assert_stands(str(number))
        self.assert_stands("a", "z", "hall", "abcdef", "zzzzzz")

    def test_sums_leasts_mosts_and_gates(self):
        self.assert_stands("a + b + 3", "a & b", "a | b", "[a 3] b", "[hall 30] 0", "[a 1] a")

    def test_two_to_eight_pieces_with_one_sign(self):
        for sign in "+&|":
            for many in range(2, 9):
                self.assert_stands(f" {sign} ".join("abcdefgh"[:many]))

    def test_a_text_without_blanks_is_told_with_them(self):
        self.assert_told("a+b+3", "a + b + 3")
        self.assert_told("a&b", "a & b")
        self.assert_told("a|b", "a | b")
        self.assert_told("[a 3]b", "[a 3] b")
        self.assert_told("[a3]b", "[a 3] b")
        self.assert_told("[a3](b+c)", "[a 3] (b + c)")
        self.assert_told("[a3][b4]c", "[a 3] [b 4] c")
        self.assert_told("(a|b)&c", "(a | b) & c")
        self.assert_told("((a|b))&(c)", "(a | b) & c")
        self.assert_told("10+2|[abcdef30]7", "10 + 2 | [abcdef 30] 7")

    def test_a_text_with_many_blanks_is_told_with_few(self):
        self.assert_told("a   +  b+    3", "a + b + 3")
        self.assert_told("a  &b", "a & b")
        self.assert_told("a|   b", "a | b")
        self.assert_told("[  a    3   ]     b", "[a 3] b")
        self.assert_told("[a   3](   b +   c  )", "[a 3] (b + c)")
        self.assert_told("(  a | b  )  &  c", "(a | b) & c")

    def test_a_gate_binds_firmest(self):
        for sign in "+&|":
            self.assert_stands(f"[a 3] b {sign} c", f"c {sign} [a 3] b")
            self.assert_stands(f"[a 3] b {sign} [c 4] d")
            self.assert_stands(f"[a 3] (b {sign} c)", f"[a 3] (b {sign} c) {sign} d")
            self.assert_told(f"([a 3] b) {sign} c", f"[a 3] b {sign} c")
            self.assert_told(f"c {sign} ([a 3] b)", f"c {sign} [a 3] b")

    def test_a_gate_whose_piece_is_a_gate(self):
        self.assert_stands("[a 3] [b 4] c", "[a 3] [b 4] c + d", "c | [a 3] [a 3] a")
        self.assert_told("[a 3] [b 4]5", "[a 3] [b 4] 5")
        self.assert_told("([a 3] b + c) & d", "[a 3] b + c & d")

    def test_each_pair_of_signs_bare_and_bracketed_both_ways(self):
        for one, other in itertools.product("+&|", repeat=2):
            for x, y, z in itertools.product(("a", "7", "[b 2] c"), repeat=3):
                bare = f"{x} {one} {y} {other} {z}"
                self.assert_stands(bare)
                left = f"({x} {one} {y}) {other} {z}"
                right = f"{x} {one} ({y} {other} {z})"
                self.assert_told(left, left if FIRMNESS[one] <= FIRMNESS[other] else bare)
                self.assert_told(right, right if FIRMNESS[other] <= FIRMNESS[one] else bare)

    def test_brackets_that_must_stand(self):
        self.assert_stands(
            "(a | b) & c", "c & (a | b)", "(a | b) + c", "c + (a | b)", "(a & b) + c", "c + (a & b)",
            "(a + b) + c", "a + (b + c)", "(a & b) & c", "a & (b & c)", "(a | b) | c", "a | (b | c)",
            "a + (b + c) + d", "(a + b) + (c + d)", "(a & b) & (c & d)", "(a | b) | (c | d)",
            "[a 3] (b + c)", "[a 3] (b & c)", "[a 3] (b | c)", "[a 3] (b + c) + d",
            "((a | b) & c) + d", "((a + b) + c) + d", "a + (b + (c + d))", "([a 3] b + c) + d",
            "(a | b & c) & d", "(a & b + c) & d", "[a 3] (b | c & d)",
        )

    def test_brackets_that_keep_more_than_eight_pieces_apart_stand(self):
        for sign in "+&|":
            eight = f" {sign} ".join("abcdefgh")
            self.assert_stands(f"({eight}) {sign} i", f"i {sign} ({eight})")

    def test_brackets_that_change_nothing(self):
        self.assert_told("(7)", "7")
        self.assert_told("((7))", "7")
        self.assert_told("(a)", "a")
        self.assert_told("((a))", "a")
        self.assert_told("([a 3] b)", "[a 3] b")
        self.assert_told("(a) + (7) + b", "a + 7 + b")
        self.assert_told("a & (b)", "a & b")
        self.assert_told("((a)) | b", "a | b")
        self.assert_told("[a 3] (b)", "[a 3] b")
        self.assert_told("[a 3] (7)", "[a 3] 7")
        self.assert_told("[a 3] [b 4] c | (d)", "[a 3] [b 4] c | d")

    def test_brackets_round_the_whole_change_nothing(self):
        for whole in ("a + b + c", "a & b", "a | b", "[a 3] b", "a | b & c + d"):
            self.assert_told(f"({whole})", whole)
        for whole in ("a + b + c", "a & b", "a | b"):
            self.assert_told(f"(({whole}))", whole)
        self.assert_told("((a | b) & c)", "(a | b) & c")

    def test_brackets_round_what_stands_in_brackets_change_nothing(self):
        self.assert_told("((a | b)) & c", "(a | b) & c")
        self.assert_told("((a + b)) + c", "(a + b) + c")
        self.assert_told("((a + b)) & c", "a + b & c")
        self.assert_told("c + ((a + b))", "c + (a + b)")

    def test_brackets_round_what_binds_firmer_anyway_change_nothing(self):
        self.assert_told("(a + b) & c", "a + b & c")
        self.assert_told("a | (b & c)", "a | b & c")
        self.assert_told("(a + b) | (c & d)", "a + b | c & d")
        self.assert_told("((a + b) & c) | d", "a + b & c | d")
        self.assert_told("((a + b) & c) + d", "(a + b & c) + d")

    def test_a_sum_in_a_sum_is_not_a_sum_of_more_pieces(self):
        self.assertNotEqual(told("(a + b) + c"), told("a + b + c"))
        self.assertNotEqual(told("a & (b & c)"), told("a & b & c"))
        self.assertNotEqual(told("(a | b) | c"), told("a | b | c"))

    def test_telling_twice_tells_the_same(self):
        recipe = read("[a 3] (b + c) & (d | 7)")
        self.assertEqual(shown(recipe), "[a 3] (b + c) & (d | 7)")
        names_of(recipe)
        answer_of(recipe, lambda name: 5)
        self.assertEqual(shown(recipe), "[a 3] (b + c) & (d | 7)")

    def test_every_bracket_told_is_needed(self):
        for text in (
            "(a | b) & ((c | d) + e)", "((a + b)) + ((c)) & (d | e)", "[a 3] (b | c) + ((d & e))",
            "(a) | ((b | c)) & [d 5] (e)", "([a 2] 7 & b) + (c + d | e)", "[a 3] (b) + ((c + d) + e)",
        ):
            recipe = told(text)
            for start, end in bracket_pairs(recipe):
                without = recipe[:start] + recipe[start + 1:end] + recipe[end + 1:]
                with self.subTest(text=text, without=without):
                    self.assertNotEqual(told(without), recipe)


def bracket_pairs(text):
    """The places of each opening bracket and of the one that closes it."""
    pairs, opened = [], []
    for at, sign in enumerate(text):
        if sign == "(":
            opened.append(at)
        elif sign == ")":
            pairs.append((opened.pop(), at))
    return pairs


if __name__ == "__main__":
    unittest.main()
