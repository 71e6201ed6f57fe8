import itertools
import unittest

from anewhall.pieces import answer_of
from anewhall.reading import read
from helping import asked, asked_in_turn

JOIN = {"+": lambda one, other: min(30, one + other), "&": min, "|": max}
FIRMNESS = {"+": 3, "&": 2, "|": 1}


def never(name):
    raise AssertionError(f"{name} asked, though it may not be")


class PiecesAloneTest(unittest.TestCase):
    def test_a_number_is_its_own_answer_and_asks_nothing(self):
        for number in range(31):
            with self.subTest(number=number):
                self.assertEqual(answer_of(read(str(number)), never), number)

    def test_a_name_asks_that_name(self):
        self.assertEqual(asked("a", {"a": 7}), (7, ["a"]))
        self.assertEqual(asked("zebra", {"zebra": 0}), (0, ["zebra"]))
        self.assertEqual(asked("abcdef", {"abcdef": 30}), (30, ["abcdef"]))

    def test_a_sum_of_two_to_eight_pieces(self):
        names = list("abcdefgh")
        answers = {name: at + 1 for at, name in enumerate(names)}
        for many, total in ((2, 3), (3, 6), (4, 10), (5, 15), (6, 21), (7, 28)):
            with self.subTest(many=many):
                self.assertEqual(asked(" + ".join(names[:many]), answers), (total, names[:many]))
        ones = {name: 1 for name in names}
        self.assertEqual(asked(" + ".join(names), ones), (8, names))

    def test_a_sum_is_at_most_30_and_asks_all_its_pieces(self):
        self.assertEqual(asked("a + b", {"a": 14, "b": 15}), (29, ["a", "b"]))
        self.assertEqual(asked("a + b", {"a": 15, "b": 15}), (30, ["a", "b"]))
        self.assertEqual(asked("a + b", {"a": 16, "b": 15}), (30, ["a", "b"]))
        self.assertEqual(asked("a + b + c", {"a": 30, "b": 30, "c": 30}), (30, ["a", "b", "c"]))
        self.assertEqual(asked("30 + a + b", {"a": 0, "b": 9}), (30, ["a", "b"]))

    def test_a_least_tells_the_least_wherever_it_stands(self):
        for answers in itertools.permutations((4, 9, 30)):
            with self.subTest(answers=answers):
                given = dict(zip("abc", answers))
                self.assertEqual(asked("a & b & c", given), (4, ["a", "b", "c"]))

    def test_a_least_stops_at_its_first_0(self):
        self.assertEqual(asked("a & b & c", {"a": 0}), (0, ["a"]))
        self.assertEqual(asked("a & b & c", {"a": 5, "b": 0}), (0, ["a", "b"]))
        self.assertEqual(asked("a & b & c", {"a": 5, "b": 2, "c": 0}), (0, ["a", "b", "c"]))
        self.assertEqual(asked("a & b & c", {"a": 1, "b": 1, "c": 2}), (1, ["a", "b", "c"]))
        self.assertEqual(asked("0 & a", {}), (0, []))

    def test_a_most_tells_the_greatest_and_asks_all(self):
        for answers in itertools.permutations((0, 9, 30)):
            with self.subTest(answers=answers):
                given = dict(zip("abc", answers))
                self.assertEqual(asked("a | b | c", given), (30, ["a", "b", "c"]))
        self.assertEqual(asked("a | b | c", {"a": 0, "b": 0, "c": 0}), (0, ["a", "b", "c"]))

    def test_leasts_and_mosts_of_eight_pieces(self):
        names = list("abcdefgh")
        answers = {name: 20 - at for at, name in enumerate(names)}
        self.assertEqual(asked(" & ".join(names), answers), (13, names))
        self.assertEqual(asked(" | ".join(names), answers), (20, names))
        self.assertEqual(asked(" | ".join(reversed(names)), answers), (20, names[::-1]))

    def test_a_gate_below_at_and_above_its_bound(self):
        self.assertEqual(asked("[a 3] b", {"a": 2}), (0, ["a"]))
        self.assertEqual(asked("[a 3] b", {"a": 3, "b": 8}), (8, ["a", "b"]))
        self.assertEqual(asked("[a 3] b", {"a": 4, "b": 8}), (8, ["a", "b"]))

    def test_gates_with_the_least_and_the_greatest_bound(self):
        self.assertEqual(asked("[a 1] b", {"a": 0}), (0, ["a"]))
        self.assertEqual(asked("[a 1] b", {"a": 1, "b": 5}), (5, ["a", "b"]))
        self.assertEqual(asked("[a 30] b", {"a": 29}), (0, ["a"]))
        self.assertEqual(asked("[a 30] b", {"a": 30, "b": 5}), (5, ["a", "b"]))


class PiecesWithinOthersTest(unittest.TestCase):
    def test_a_gate_over_each_piece(self):
        given = {"a": 3, "b": 4, "c": 5}
        self.assertEqual(asked("[a 3] 7", given), (7, ["a"]))
        self.assertEqual(asked("[a 3] (b + c)", given), (9, ["a", "b", "c"]))
        self.assertEqual(asked("[a 3] (b & c)", given), (4, ["a", "b", "c"]))
        self.assertEqual(asked("[a 3] (b | c)", given), (5, ["a", "b", "c"]))
        self.assertEqual(asked("[a 3] [b 4] c", given), (5, ["a", "b", "c"]))
        self.assertEqual(asked("[a 3] [b 5] c", given), (0, ["a", "b"]))
        self.assertEqual(asked("[a 4] [b 4] c", given), (0, ["a"]))

    def test_a_shut_gate_asks_nothing_of_its_piece_and_what_stands_beside_it_is_asked(self):
        self.assertEqual(asked("[a 3] b + c", {"a": 0, "c": 2}), (2, ["a", "c"]))
        self.assertEqual(asked("[a 3] b | c", {"a": 0, "c": 2}), (2, ["a", "c"]))
        self.assertEqual(asked("[a 3] (b + c)", {"a": 0}), (0, ["a"]))

    def test_a_shut_gate_stops_a_least(self):
        self.assertEqual(asked("[a 3] b & c", {"a": 2}), (0, ["a"]))
        self.assertEqual(asked("c & [a 3] b & d", {"c": 1, "a": 2}), (0, ["c", "a"]))

    def test_a_least_that_stops_within_others_stops_nothing_around_it(self):
        self.assertEqual(asked("a & b | c", {"a": 0, "c": 4}), (4, ["a", "c"]))
        self.assertEqual(asked("(a & b) + c", {"a": 0, "c": 4}), (4, ["a", "c"]))
        self.assertEqual(asked("(a & b & c) & d", {"a": 1, "b": 0}), (0, ["a", "b"]))
        self.assertEqual(asked("[a 1] (b & c) + d", {"a": 1, "b": 0, "d": 6}), (6, ["a", "b", "d"]))

    def test_a_least_of_sums_and_mosts(self):
        self.assertEqual(asked("a + b & c", {"a": 0, "b": 0}), (0, ["a", "b"]))
        self.assertEqual(asked("a + b & c", {"a": 0, "b": 1, "c": 9}), (1, ["a", "b", "c"]))
        self.assertEqual(asked("(a | b) & c", {"a": 0, "b": 0}), (0, ["a", "b"]))

    def test_a_sum_that_goes_over_30_within_others(self):
        given = {"a": 20, "b": 20, "c": 5}
        self.assertEqual(asked("a + b & 30", given), (30, ["a", "b"]))
        self.assertEqual(asked("(a + b) + c", given), (30, ["a", "b", "c"]))
        self.assertEqual(asked("a + b | c", given), (30, ["a", "b", "c"]))

    def test_all_signs_side_by_side_and_both_ways_bracketed(self):
        given = {"a": 5, "b": 3, "c": 4}
        for one, other in itertools.product("+&|", repeat=2):
            for x, y, z in itertools.permutations("abc"):
                left = JOIN[other](JOIN[one](given[x], given[y]), given[z])
                right = JOIN[one](given[x], JOIN[other](given[y], given[z]))
                bare = left if FIRMNESS[one] >= FIRMNESS[other] else right
                for text, answer in (
                    (f"({x} {one} {y}) {other} {z}", left),
                    (f"{x} {one} ({y} {other} {z})", right),
                    (f"{x} {one} {y} {other} {z}", bare),
                ):
                    with self.subTest(text=text):
                        self.assertEqual(asked(text, given), (answer, [x, y, z]))


class OrderOfAskingsTest(unittest.TestCase):
    def test_the_same_name_is_asked_as_often_as_it_stands(self):
        self.assertEqual(asked("a + a + a", {"a": 4}), (12, ["a", "a", "a"]))
        self.assertEqual(asked("a & a", {"a": 4}), (4, ["a", "a"]))
        self.assertEqual(asked("a | b | a", {"a": 4, "b": 5}), (5, ["a", "b", "a"]))
        self.assertEqual(asked("[a 3] a", {"a": 4}), (4, ["a", "a"]))

    def test_askings_go_from_the_beginning_on(self):
        text = "[d 2] (c | b) + a & e | d & (b + [c 1] a)"
        given = {"a": 1, "b": 2, "c": 3, "d": 4, "e": 5}
        self.assertEqual(asked(text, given), (4, list("dcbaedbca")))

    def test_an_ask_that_answers_otherwise_each_time(self):
        self.assertEqual(asked_in_turn(read("a + a"), [1, 2]), (3, ["a", "a"]))
        self.assertEqual(asked_in_turn(read("a + a"), [20, 20]), (30, ["a", "a"]))
        self.assertEqual(asked_in_turn(read("a & a & a"), [5, 3, 4]), (3, ["a", "a", "a"]))
        self.assertEqual(asked_in_turn(read("a & a & a"), [5, 0]), (0, ["a", "a"]))
        self.assertEqual(asked_in_turn(read("a | a"), [1, 2]), (2, ["a", "a"]))
        self.assertEqual(asked_in_turn(read("a | a"), [2, 1]), (2, ["a", "a"]))
        self.assertEqual(asked_in_turn(read("[a 3] a"), [3, 0]), (0, ["a", "a"]))
        self.assertEqual(asked_in_turn(read("[a 3] a"), [3, 9]), (9, ["a", "a"]))
        self.assertEqual(asked_in_turn(read("[a 3] a"), [2]), (0, ["a"]))

    def test_the_same_recipe_asked_again_asks_again(self):
        recipe = read("[a 3] b + a & c")
        self.assertEqual(asked_in_turn(recipe, [3, 4, 5, 6]), (6, ["a", "b", "a", "c"]))
        self.assertEqual(asked_in_turn(recipe, [2, 7, 9]), (7, ["a", "a", "c"]))
        self.assertEqual(asked_in_turn(recipe, [0, 0]), (0, ["a", "a"]))
        self.assertEqual(asked_in_turn(recipe, [3, 4, 5, 6]), (6, ["a", "b", "a", "c"]))

    def test_two_recipes_of_one_text_are_asked_apart(self):
        one, other = read("a | b"), read("a | b")
        self.assertEqual(asked_in_turn(one, [1, 2]), (2, ["a", "b"]))
        self.assertEqual(asked_in_turn(other, [4, 3]), (4, ["a", "b"]))
        self.assertEqual(asked_in_turn(one, [1, 2]), (2, ["a", "b"]))


if __name__ == "__main__":
    unittest.main()
