import itertools
import re
import unittest

from anewhall.reading import read
from helping import assert_no_recipe, told


def grammar():
    """A pattern for all recipes of few words, told apart from the program's own way.

    What lies deepest is built first; each layer is put into the one above it.
    """
    name, number, bound = "[a-z]", "[0-9]", "[1-9]"
    single = f"(?:{name}|{number})"
    for _ in range(2):
        joined = f"{single}(?:[+&|]{single})*"
        gate = rf"\[{name}{bound}\]{single}"
        single = rf"(?:{name}|{number}|\({joined}\)|{gate})"
    return re.compile(f"{single}(?:[+&|]{single})*")


class ReadingTest(unittest.TestCase):
    def assert_refused(self, *texts):
        for text in texts:
            assert_no_recipe(self, lambda: read(text), text)

    def assert_read(self, *texts):
        for text in texts:
            with self.subTest(read=text):
                told(text)

    def test_all_texts_of_up_to_five_words(self):
        recipes = grammar()
        vocabulary = ("a", "3", "0", "+", "|", "(", ")", "[", "]")
        for many in range(1, 6):
            for words in itertools.product(vocabulary, repeat=many):
                text = " ".join(words)
                try:
                    read(text)
                    taken = True
                except ValueError:
                    taken = False
                self.assertEqual(taken, bool(recipes.fullmatch("".join(words))), text)

    def test_other_signs(self):
        self.assert_read("a + b", "a & b", "a | b", "a +  b")
        self.assert_refused("A + b", "a + B", "aB", "Z", "HALL")
        self.assert_refused("a\t+ b", "a +\tb", "a\n+ b", "a +\nb", "a\r+ b", "a\n", "\ta", "a\x00", "a\x0b+ b")
        self.assert_refused("a.b", "a + b.", ".", "3.0", "a - b", "-3", "-a", "a * b", "a / b", "a, b")
        self.assert_refused("a_b", "a'", '"a"', "a # b", "{a}", "<a>", "a = b", "!a", "~a", "a ^ b", "a`b", "@")
        self.assert_refused("+3", "a++b", "a&&b", "a||b", "a +| b")

    def test_letters_and_figures_beyond_a_to_z_and_0_to_9(self):
        self.assert_refused("\u00e4", "\u00e9a", "a\u00df", "\u0430", "\u03b1", "\uff41", "\u00aa", "a + \u0131")
        self.assert_refused("\u0663", "\u00b2", "\u00bd", "\uff13", "a + \u0967", "1\u0663", "[a \u0663] b", "\u2460")
        self.assert_refused("a\u00a0+ b", "a\u2003+ b", "a\u200b+ b", "a \uff0b b", "\U0001d41a")

    def test_names_of_six_and_of_seven_letters(self):
        self.assert_read("a", "abcdef", "zzzzzz + a", "[abcdef 3] abcdef")
        self.assert_refused("abcdefg", "zzzzzzz + a", "a + zzzzzzz", "[abcdefg 3] a", "[a 3] abcdefg")
        self.assert_refused("abcdefghijkl", "a" * 400)

    def test_letters_and_figures_side_by_side_are_two_words(self):
        self.assert_refused("a3", "3a", "a3b", "a 3", "3 a")
        self.assert_read("[a3]3")

    def test_numbers(self):
        self.assert_read(*[str(number) for number in range(31)])
        self.assert_refused("31", "32", "39", "40", "99", "100", "300", "1000", "4294967296", "3" * 400)
        self.assert_refused("00", "01", "07", "09", "010", "030", "000", "0 0", "0 7")
        self.assert_refused("a + 31", "a + 07", "31 & a", "00 | a", "(31)", "[a 3] 31", "[a 3] 07")

    def test_bounds(self):
        self.assert_read(*[f"[a {bound}] b" for bound in range(1, 31)])
        self.assert_refused("[a 0] b", "[a 31] b", "[a 40] b", "[a 100] b", "[a 300] b")
        self.assert_refused("[a 00] b", "[a 01] b", "[a 07] b", "[a 030] b", "[a0]b", "[a31]b")
        self.assert_refused("c + [a 0] b", "[c 3] [a 0] b", "[c 0] [a 3] b")

    def test_eight_and_nine_pieces(self):
        for sign in "+&|":
            eight, nine = sign.join("abcdefgh"), sign.join("abcdefghi")
            self.assert_read(eight, f"({eight})", f"[z 3] ({eight})", f"(a {sign} b) {sign} {sign.join('cdefghi')}")
            self.assert_refused(nine, f"({nine})", f"[z 3] ({nine})", sign.join("abcdefghij"))
            self.assert_refused(f"{nine} {sign} 1", sign.join("1" * 9), sign.join("a" * 9))
        self.assert_read("a+b+c+d+e+f+g+h & a | b", "b | a & a+b+c+d+e+f+g+h", "a&b&c&d&e&f&g&h+i | j")
        self.assert_refused("a+b+c+d+e+f+g+h+i & a | b", "b | a & a+b+c+d+e+f+g+h+i", "b | a&b&c&d&e&f&g&h&i")

    def test_forty_and_forty_one_words(self):
        eight = "a+a+a+a+a+a+a+a"
        self.assert_read(f"{eight}&{eight}&a+a+a+a")
        self.assert_read(f"{eight}|({eight})|a+a+a")
        self.assert_read("[a3]b+" * 6 + "c+d", "[a3]b&" * 6 + "(c)")
        # No recipe has forty words: each has one more name or number than signs
        # between pieces, and its brackets and gates have an even number of words.
        self.assert_refused(f"{eight}&{eight}&a+a+a+a+", f"{eight}&{eight}&a+a+a+a a")
        self.assert_refused(f"{eight}&{eight}&a+a+a+a+a")
        self.assert_refused(f"{eight}|({eight})|a+a+a+a", f"{eight}|({eight})|(a+a+a)")
        self.assert_refused("[a3]b+" * 6 + "c+(d)", "[a3]b&" * 6 + "(c)+d")
        self.assert_refused("+".join(["[a3]b"] * 8))

    def test_words_are_counted_not_signs(self):
        name = "abcdef"
        eight = "+".join([name] * 8)
        self.assert_read(f"{eight}&{eight}&{name}+{name}+{name}+30")
        self.assert_refused(f"{eight}&{eight}&{name}+{name}+{name}+30+30")

    def test_400_and_401_signs_blanks_counted(self):
        self.assert_read("a" + " " * 397 + "+b", "a+" + " " * 397 + "b", "a" + " " * 198 + "+" + " " * 199 + "b")
        self.assert_refused("a" + " " * 398 + "+b", "a+" + " " * 398 + "b", "a" + " " * 199 + "+" + " " * 199 + "b")
        self.assert_read("(" + " " * 397 + "a)", "[a" + " " * 395 + "3]b")
        self.assert_refused("(" + " " * 398 + "a)", "[a" + " " * 396 + "3]b")
        self.assert_refused("a" + " " * 998 + "+b")

    def test_2_deep_and_3_deep_by_brackets(self):
        self.assert_read("a", "(a)", "((a))", "((a) + b) & c", "a | (b & (c | d))", "((a)) + ((b))")
        self.assert_refused("(((a)))", "(((a)) + b)", "a | (b & (c | (d)))", "a + (((b)))", "((((a))))")
        self.assert_refused("(((a + b) + c) + d) + e", "a + (b + (c + (d + e)))", "(((7)))", "((a) + ((b)))")
        self.assert_refused("(" * 19 + "a" + ")" * 19, "(" * 199 + "a" + ")" * 199)

    def test_2_deep_and_3_deep_by_gates_pieces(self):
        self.assert_read("[a 1] b", "[a 1] [b 1] c", "[a 1] [b 1] 7", "[a 1] [b 1] c + [d 1] [e 1] f")
        self.assert_refused("[a 1] [b 1] [c 1] d", "[a 1] [b 1] [c 1] 7", "d + [a 1] [b 1] [c 1] 7")
        self.assert_refused("[a 1] [b 1] [c 1] [d 1] e")

    def test_2_deep_and_3_deep_by_both_mixed(self):
        self.assert_read("[a 1] (b)", "[a 1] (b + c)", "([a 1] b)", "([a 1] b + c) + d", "(a) + [a 1] (b)")
        self.assert_refused("[a 1] ((b))", "[a 1] ((b + c))", "[a 1] (b + (c + d))", "(([a 1] b))")
        self.assert_refused("([a 1] (b))", "([a 1] (b + c)) + d", "([a 1] [b 1] c)", "[a 1] ([b 1] c)")
        self.assert_refused("[a 1] [b 1] (c)", "[a 1] [b 1] (c + d)", "[a 1] (b + [c 1] d)")

    def test_what_lies_beside_adds_no_depth(self):
        self.assert_read("((a)) + ((b)) & ((c)) | [a 1] (d) | [a 1] [b 1] e")
        self.assert_read("(a) + (b) + (c) + (d)")

    def test_nothing_and_blanks(self):
        self.assert_refused("", " ", "   ", " " * 400, " " * 401)
        self.assert_refused("()", "( )", "(())", "a + ()", "[]", "[ ]", "[] a")

    def test_words_side_by_side_with_no_sign_between(self):
        self.assert_refused("a b", "a  b", "3 4", "3 a", "a 3", "(a) b", "a (b)", "(a) (b)", "(a)(b)", "3 (a)")
        self.assert_refused("a [b 1] c", "[b 1] c a", "[b 1] c [b 1] c", "a + b c", "a b + c", "(a b)", "[a 1] b c")

    def test_a_sign_at_the_beginning_or_at_the_end(self):
        for sign in "+&|":
            self.assert_refused(f"{sign} a", f"a {sign}", f"{sign} a {sign} b", f"a {sign} b {sign}", sign)
            self.assert_refused(f"({sign} a)", f"(a {sign})", f"[a 1] {sign} b", f"{sign} [a 1] b", f"[a 1] b {sign}")
            for other in "+&|":
                self.assert_refused(f"a {sign} {other} b", f"a {sign} b {other}")

    def test_brackets_not_closed_or_not_opened(self):
        self.assert_refused("(a", "a)", "(a + b", "a + b)", "((a)", "(a))", "(", ")", ")a(", "a + (b", "a) + b")
        self.assert_refused("(a]", "[a)", "(a + b] + c", "[a 3) b", "(a 3] b", "([a 3) b]", "([a 3] b", "[a 3] b)")
        self.assert_refused("[a 3] (b", "[a 3 (b)]", "]", "[", "a]", "[a")

    def test_gates_that_lack_something(self):
        self.assert_read("[a 3] b")
        self.assert_refused("[3] b", "[ 3] b", "[a] b", "[a ] b", "[] b", "[a 3]", "[a 3] ", "[a 3", "[a 3 b", "a 3] b")
        self.assert_refused("[a 3] + b", "[a 3] )", "([a 3])", "[a 3] ]", "c + [a 3]", "[a 3] | c", "[b 1] [a 3]")

    def test_gates_with_another_word_in_a_place(self):
        self.assert_refused("[3 a] b", "[3 3] b", "[a a] b", "[a b 3] c", "[a 3 3] c", "[a 3 b] c")
        self.assert_refused("[(a) 3] b", "[a (3)] b", "[a + b 3] c", "[a + 3] b", "[a 1 + 2] b", "[[a 3] b 3] c")
        self.assert_refused("[a, 3] b", "[a [3]] b", "[+ 3] b", "[a +] b", "[( 3] b", "[a 3 ) b")

    def test_a_refusal_leaves_later_readings_as_they_are(self):
        self.assert_refused("(a", "a +", "[a 3]")
        self.assertEqual(told("a + (b | c)"), "a + (b | c)")
        self.assertEqual(told("b"), "b")


if __name__ == "__main__":
    unittest.main()
