import unittest

from anewhall.pieces import names_of, shown
from anewhall.reading import read
from helping import asked_in_turn


def names(text):
    return names_of(read(text))


class NamesOfTest(unittest.TestCase):
    def test_names_stand_in_the_order_in_which_they_stand_first(self):
        self.assertEqual(names("c + a + b"), ["c", "a", "b"])
        self.assertEqual(names("c & a & b"), ["c", "a", "b"])
        self.assertEqual(names("c | a | b"), ["c", "a", "b"])
        self.assertEqual(names("b | c & a + abcdef"), ["b", "c", "a", "abcdef"])
        self.assertEqual(names("(d | b) & (c | a)"), ["d", "b", "c", "a"])

    def test_each_name_stands_once(self):
        self.assertEqual(names("b + a + b"), ["b", "a"])
        self.assertEqual(names("a & a"), ["a"])
        self.assertEqual(names("c | (b | c) & [b 2] a + c"), ["c", "b", "a"])

    def test_a_gates_name_stands_ahead_of_its_pieces(self):
        self.assertEqual(names("[b 2] a"), ["b", "a"])
        self.assertEqual(names("[c 2] [b 2] a"), ["c", "b", "a"])
        self.assertEqual(names("d + [b 2] (c + a)"), ["d", "b", "c", "a"])
        self.assertEqual(names("[a 2] a"), ["a"])

    def test_names_that_would_not_be_asked_are_told_too(self):
        self.assertEqual(names("0 & a"), ["a"])
        self.assertEqual(names("30 + a"), ["a"])

    def test_numbers_and_bounds_are_no_names(self):
        self.assertEqual(names("7"), [])
        self.assertEqual(names("1 + 2 & 3 | 4"), [])
        self.assertEqual(names("[a 3] 4"), ["a"])

    def test_the_list_is_a_new_one_each_time(self):
        recipe = read("[c 2] b + a")
        told = names_of(recipe)
        self.assertIs(type(told), list)
        told.append("x")
        told[0] = "y"
        self.assertEqual(names_of(recipe), ["c", "b", "a"])
        names_of(recipe).clear()
        self.assertEqual(names_of(recipe), ["c", "b", "a"])
        self.assertEqual(names("[c 2] b + a"), ["c", "b", "a"])
        self.assertEqual(shown(recipe), "[c 2] b + a")
        self.assertEqual(asked_in_turn(recipe, [2, 3, 4]), (7, ["c", "b", "a"]))

    def test_changing_an_empty_list_or_that_of_a_name_changes_nothing_else(self):
        for text, expected in (("7", []), ("a", ["a"])):
            with self.subTest(text=text):
                recipe = read(text)
                names_of(recipe).append("x")
                self.assertEqual(names_of(recipe), expected)
                self.assertEqual(names(text), expected)


if __name__ == "__main__":
    unittest.main()
