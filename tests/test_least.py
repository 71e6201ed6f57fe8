import itertools
import unittest

from anewhall.least import least
from helping import assert_no_recipe


class LeastTest(unittest.TestCase):
    def assert_least(self, wells, works, expected):
        """The answers, in whatever order the works are handed in, and the order told."""
        for names in orders(list(works)):
            given_wells = dict(wells)
            given_works = {name: works[name] for name in names}
            with self.subTest(wells=wells, works=given_works):
                told = least(given_wells, given_works)
                self.assertEqual(told, expected)
                self.assertIs(type(told), dict)
                self.assertEqual(list(told), names)
                self.assertEqual(list(given_wells.items()), list(wells.items()))
                self.assertEqual(list(given_works.items()), [(name, works[name]) for name in names])

    def test_no_works(self):
        self.assert_least({}, {}, {})
        self.assert_least({"a": 3}, {}, {})

    def test_works_with_no_well(self):
        self.assert_least({}, {"a": "7"}, {"a": 7})
        self.assert_least({}, {"a": "7 + 8", "b": "0"}, {"a": 15, "b": 0})

    def test_names_that_are_neither_stand_at_0(self):
        self.assert_least({}, {"a": "x"}, {"a": 0})
        self.assert_least({}, {"a": "x + 2 | y"}, {"a": 2})
        self.assert_least({"w": 4}, {"a": "x & w", "b": "[x 1] w", "c": "x + w"}, {"a": 0, "b": 0, "c": 4})

    def test_works_that_lean_on_wells(self):
        self.assert_least({"w": 5}, {"a": "w"}, {"a": 5})
        self.assert_least({"w": 5, "v": 0}, {"a": "w + 1", "b": "v | w", "c": "v & w"}, {"a": 6, "b": 5, "c": 0})
        self.assert_least({"w": 3}, {"a": "[w 3] 9", "b": "[w 4] 9", "c": "[w 2] 9"}, {"a": 9, "b": 0, "c": 9})
        self.assert_least({"w": 30, "v": 30}, {"a": "w + v"}, {"a": 30})

    def test_works_that_lean_on_one_another(self):
        self.assert_least({"w": 2}, {"a": "b + 1", "b": "c + 1", "c": "w + 1"}, {"a": 5, "b": 4, "c": 3})
        self.assert_least({}, {"a": "b & c", "b": "4", "c": "b + 3"}, {"a": 4, "b": 4, "c": 7})
        self.assert_least({"w": 9}, {"a": "[b 8] c", "b": "w", "c": "[b 10] 5 | 2"}, {"a": 2, "b": 9, "c": 2})

    def test_a_long_chain_in_both_orders(self):
        names = [one + other for one in "abcd" for other in "abcdefghij"]
        works = {name: f"{after} + 1" for name, after in zip(names, names[1:])}
        works[names[-1]] = "1"
        expected = {name: min(30, 40 - at) for at, name in enumerate(names)}
        self.assertEqual(least({}, works), expected)
        backward = {name: works[name] for name in reversed(names)}
        self.assertEqual(list(least({}, backward).items()), [(name, expected[name]) for name in backward])

    def test_works_that_lean_on_themselves(self):
        self.assert_least({}, {"a": "a"}, {"a": 0})
        self.assert_least({}, {"a": "a & 5"}, {"a": 0})
        self.assert_least({}, {"a": "a | 5"}, {"a": 5})
        self.assert_least({}, {"a": "a + 1"}, {"a": 30})
        self.assert_least({}, {"a": "a + a"}, {"a": 0})
        self.assert_least({}, {"a": "a + 1 & 17"}, {"a": 17})
        self.assert_least({}, {"a": "[a 1] 9"}, {"a": 0})
        self.assert_least({"w": 1}, {"a": "[a 1] 9 | w"}, {"a": 9})
        self.assert_least({"w": 7}, {"a": "a + w & 20"}, {"a": 20})

    def test_rings_that_stay_at_0(self):
        self.assert_least({}, {"a": "b", "b": "a"}, {"a": 0, "b": 0})
        self.assert_least({"w": 9}, {"a": "b & w", "b": "c", "c": "a | x"}, {"a": 0, "b": 0, "c": 0})
        self.assert_least({}, {"a": "[b 1] 30", "b": "[a 1] 30"}, {"a": 0, "b": 0})
        self.assert_least({}, {"a": "b & 30", "b": "a + a"}, {"a": 0, "b": 0})

    def test_rings_that_rise_to_30(self):
        self.assert_least({}, {"a": "b + 1", "b": "a"}, {"a": 30, "b": 30})
        self.assert_least({}, {"a": "b + 1", "b": "c", "c": "a"}, {"a": 30, "b": 30, "c": 30})
        self.assert_least({"w": 1}, {"a": "b | w", "b": "a + a"}, {"a": 30, "b": 30})

    def test_rings_that_rise_to_something_between(self):
        self.assert_least({}, {"a": "b + 1", "b": "a & 10"}, {"a": 11, "b": 10})
        self.assert_least({"w": 4}, {"a": "b | w", "b": "a"}, {"a": 4, "b": 4})
        self.assert_least({"w": 6}, {"a": "[b 3] w | 3", "b": "a", "c": "a + b"}, {"a": 6, "b": 6, "c": 12})

    def test_two_rings_and_works_ahead_of_and_behind_them(self):
        self.assert_least(
            {"w": 2},
            {"a": "b + w & 12", "b": "a", "c": "b + d", "d": "c & d | w", "e": "[c 14] 1"},
            {"a": 12, "b": 12, "c": 14, "d": 2, "e": 1},
        )

    def test_the_least_of_all_that_fit(self):
        recipes = {
            "a": lambda a, b: a, "b": lambda a, b: b, "b + 1 & 4": lambda a, b: min(min(30, b + 1), 4),
            "a | 3": lambda a, b: max(a, 3), "[a 2] b": lambda a, b: b if a >= 2 else 0,
            "[b 3] 5 | 1": lambda a, b: max(5 if b >= 3 else 0, 1), "a + b": lambda a, b: min(30, a + b),
            "a & b": min, "6": lambda a, b: 6,
        }
        for (text_a, fit_a), (text_b, fit_b) in itertools.product(recipes.items(), repeat=2):
            fitting = [(a, b) for a in range(31) for b in range(31) if fit_a(a, b) == a and fit_b(a, b) == b]
            self.assert_least({}, {"a": text_a, "b": text_b}, dict(zip("ab", fitting[0])))
            for a, b in fitting:
                self.assertLessEqual(fitting[0][0], a)
                self.assertLessEqual(fitting[0][1], b)

    def test_texts_written_otherwise(self):
        self.assert_least({"w": 3}, {"a": "w+b", "b": "[ w  2 ](  7 )"}, {"a": 10, "b": 7})


class HandedInAndToldTest(unittest.TestCase):
    def test_what_is_told_may_be_changed(self):
        wells, works = {"w": 3}, {"a": "w + b", "b": "b | 2"}
        told = least(wells, works)
        told["a"] = 29
        told["w"] = 28
        del told["b"]
        self.assertEqual(least(wells, works), {"a": 5, "b": 2})
        self.assertEqual((wells, works), ({"w": 3}, {"a": "w + b", "b": "b | 2"}))

    def test_what_was_handed_in_may_be_changed_afterwards(self):
        wells, works = {"w": 3}, {"a": "w + b", "b": "2"}
        told = least(wells, works)
        wells["w"] = 9
        works["b"] = "4"
        del works["a"]
        self.assertEqual(told, {"a": 5, "b": 2})
        works["a"] = "w + b"
        self.assertEqual(least(wells, works), {"b": 4, "a": 13})

    def test_the_order_told_is_that_of_the_works(self):
        works = {"c": "b", "a": "c", "b": "w"}
        self.assertEqual(list(least({"w": 1}, works)), ["c", "a", "b"])
        self.assertEqual(list(least({"w": 1, "v": 2}, {"z": "1", "y": "2"})), ["z", "y"])


class RefusedTest(unittest.TestCase):
    def test_a_text_that_is_no_recipe_is_refused(self):
        for text in ("", " ", "a +", "31", "[b 0] c", "(a", "abcdefg", "a b", "A", "(((a)))"):
            assert_no_recipe(self, lambda: least({}, {"a": text}), text)

    def test_it_is_refused_wherever_it_stands_and_whether_or_not_it_is_asked(self):
        for works in (
            {"a": "a +", "b": "1", "c": "b"},
            {"b": "1", "a": "a +", "c": "b"},
            {"b": "0 & a", "c": "b", "a": "a +"},
        ):
            wells, before = {"w": 3}, dict(works)
            assert_no_recipe(self, lambda: least(wells, works), list(works))
            self.assertEqual(wells, {"w": 3})
            self.assertEqual(list(works.items()), list(before.items()))

    def test_a_refusal_leaves_later_answers_as_they_are(self):
        assert_no_recipe(self, lambda: least({"w": 3}, {"a": "30", "b": "b +"}), "b +")
        self.assertEqual(least({"w": 3}, {"b": "a + w"}), {"b": 3})


def orders(names):
    """All orders of the names, each a list."""
    return [list(order) for order in itertools.permutations(names)]


if __name__ == "__main__":
    unittest.main()
