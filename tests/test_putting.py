import unittest

from anewhall.errors import Full, HallError, NoName, NoNumber, NoRecipe
from anewhall.hall import Hall
from watching import watched

NO_NAMES = (
    "", "abcdefg", "zzzzzzzzzz", "A", "aB", "a1", "1", "a b", " ", " a", "a ", "a\n", "\ta", "a_b", "a-b", "a.b",
    "[a]", "(a)", "a+b", "\u00e4", "\u0430", "\uff41", "\u00df", "a\u0301", "'a'",
)
NAMES = ("a", "z", "ab", "abcde", "abcdef", "zzzzzz", "well", "work", "ask")
NO_RECIPES = ("", " ", "a +", "31", "07", "A", "abcdefg", "[a 0] b", "(a", "a b", "(((a)))", "-1", "a,b")
TEN = "abcdefghij"


class NamesTest(unittest.TestCase):
    def test_names(self):
        for name in NAMES:
            with self.subTest(name=name):
                hall = watched(self, {}, {})
                self.assertEqual(hall.ask(name), 0)
                hall.put(name, 7)
                self.assertEqual(hall.ask(name), 7)
                hall.make(name, "3 + 2")
                self.assertEqual(hall.asked(name), (5, [name]))

    def test_texts_that_are_no_names(self):
        hall = watched(self, {"a": 3}, {"b": "a + 1"})
        hall.ask("b")
        for text in NO_NAMES:
            with self.subTest(text=text):
                hall.refused(NoName, lambda hall: hall.put(text, 3))
                hall.refused(NoName, lambda hall: hall.make(text, "3"))
                hall.refused(NoName, lambda hall: hall.ask(text))
                self.assertEqual(hall.hall.leans(text), [])
        self.assertEqual(hall.asked("b"), (4, []))

    def test_refusals_are_hall_errors_and_value_errors(self):
        hall = Hall()
        for deed in (lambda: hall.put("", 3), lambda: hall.make("", "3"), lambda: hall.ask("")):
            with self.assertRaises(HallError):
                deed()
            with self.assertRaises(ValueError):
                deed()


class NumbersTest(unittest.TestCase):
    def test_numbers(self):
        hall = watched(self, {}, {})
        for number in range(31):
            hall.put("a", number)
            self.assertEqual(hall.ask("a"), number)
            self.assertEqual(hall.hall.wells(), {"a": number})

    def test_whole_numbers_that_are_none(self):
        hall = watched(self, {"a": 3}, {"b": "a + 1"})
        for number in (-1, 31, -30, 32, 100, 2 ** 70, -2 ** 70):
            with self.subTest(number=number):
                hall.refused(NoNumber, lambda hall: hall.put("a", number))
                hall.refused(NoNumber, lambda hall: hall.put("b", number))
                hall.refused(NoNumber, lambda hall: hall.put("c", number))
        self.assertEqual(hall.asked("b"), (4, ["b"]))


class RecipesTest(unittest.TestCase):
    def test_recipes_are_told_by_their_texts(self):
        hall = watched(self, {}, {"b": "((a|3))&[ c 2 ](d)", "a": "(a+1)"})
        self.assertEqual(list(hall.hall.works().items()), [("a", "a + 1"), ("b", "(a | 3) & [c 2] d")])

    def test_texts_that_are_no_recipes(self):
        hall = watched(self, {"a": 3}, {"b": "a + 1"})
        for text in NO_RECIPES:
            with self.subTest(text=text):
                for name in "abc":
                    hall.refused(NoRecipe, lambda hall: hall.make(name, text))
        self.assertEqual(hall.asked("b"), (4, ["b"]))


class PutAndMadeAgainTest(unittest.TestCase):
    def test_wells_and_works_are_told_in_the_order_of_names(self):
        hall = watched(self, {"c": 1, "ab": 2, "a": 0}, {"d": "a", "b": "c", "aa": "30"})
        self.assertEqual(list(hall.hall.wells().items()), [("a", 0), ("ab", 2), ("c", 1)])
        self.assertEqual(list(hall.hall.works().items()), [("aa", "30"), ("b", "c"), ("d", "a")])

    def test_a_new_hall_has_nothing(self):
        hall = Hall()
        self.assertEqual((hall.wells(), hall.works(), hall.rings(), hall.runs()), ({}, {}, [], []))
        self.assertEqual((hall.leans("a"), hall.ask("a")), ([], 0))

    def test_halls_are_apart(self):
        one, other = Hall(), Hall()
        one.put("a", 3)
        one.make("b", "a")
        one.ask("b")
        one.mark()
        self.assertEqual((other.wells(), other.works(), other.runs(), other.ask("b")), ({}, {}, [], 0))
        self.assertEqual(other.mark(), 0)

    def test_a_well_put_again_has_the_last_number(self):
        hall = watched(self, {"a": 3}, {})
        hall.put("a", 9)
        self.assertEqual((hall.ask("a"), hall.hall.wells()), (9, {"a": 9}))

    def test_a_work_that_is_put_is_a_well(self):
        hall = watched(self, {"w": 3}, {"a": "w + 1", "b": "a + 1"})
        self.assertEqual(hall.ask("b"), 5)
        hall.put("a", 9)
        self.assertEqual((hall.hall.wells(), hall.hall.works()), ({"a": 9, "w": 3}, {"b": "a + 1"}))
        self.assertEqual(hall.asked("a"), (9, []))
        self.assertEqual(hall.asked("b"), (10, ["b"]))

    def test_a_well_that_is_made_is_a_work(self):
        hall = watched(self, {"w": 3, "a": 9}, {"b": "a + 1"})
        self.assertEqual(hall.ask("b"), 10)
        hall.make("a", "w + 1")
        self.assertEqual((hall.hall.wells(), hall.hall.works()), ({"w": 3}, {"a": "w + 1", "b": "a + 1"}))
        self.assertEqual(hall.asked("b"), (5, ["a", "b"]))


class FullTest(unittest.TestCase):
    def halls_of_ten(self):
        yield watched(self, {name: 1 for name in TEN}, {})
        yield watched(self, {}, {name: "1" for name in TEN})
        yield watched(self, {name: 1 for name in TEN[:4]}, {name: "1" for name in TEN[4:]})

    def test_an_eleventh_name(self):
        for hall in self.halls_of_ten():
            hall.refused(Full, lambda hall: hall.put("k", 3))
            hall.refused(Full, lambda hall: hall.make("k", "3"))
            self.assertEqual([hall.ask(name) for name in TEN + "k"], [1] * 10 + [0])

    def test_a_tenth_name(self):
        nine = {name: 1 for name in TEN[:9]}
        watched(self, nine, {}).put("j", 3)
        watched(self, nine, {}).make("j", "3")
        watched(self, {}, {name: "1" for name in TEN[:9]}).put("j", 3)
        watched(self, {}, {name: "1" for name in TEN[:9]}).make("j", "3")

    def test_a_name_put_or_made_again_beside_nine_others(self):
        for hall in self.halls_of_ten():
            for name in TEN:
                hall.put(name, 4)
                hall.make(name, "5")
                hall.make(name, "6")
                hall.put(name, 7)
                hall.put(name, 8)
            hall.refused(Full, lambda hall: hall.put("k", 3))

    def test_names_that_are_only_asked_or_read_take_no_room(self):
        hall = watched(self, {}, {name: f"{name}x + {name}y" for name in TEN})
        for name in TEN:
            hall.ask(name)
            hall.ask(f"{name}x")
        hall.put("a", 3)

    def test_going_back_makes_room(self):
        hall = watched(self, {name: 1 for name in TEN[:9]}, {})
        hall.mark()
        hall.put("j", 1)
        hall.refused(Full, lambda hall: hall.put("k", 1))
        hall.back(0)
        hall.put("k", 1)
        hall.refused(Full, lambda hall: hall.make("j", "1"))


class OrderOfRefusalsTest(unittest.TestCase):
    def setUp(self):
        self.hall = watched(self, {name: 1 for name in TEN}, {})

    def test_put(self):
        self.hall.refused(NoName, lambda hall: hall.put("A", 31))
        self.hall.refused(NoName, lambda hall: hall.put("abcdefg", -1))
        self.hall.refused(NoName, lambda hall: hall.put("abcdefg", 3))
        self.hall.refused(NoNumber, lambda hall: hall.put("k", 31))
        self.hall.refused(NoNumber, lambda hall: hall.put("k", -1))
        self.hall.refused(NoNumber, lambda hall: hall.put("a", 31))
        self.hall.refused(Full, lambda hall: hall.put("k", 30))

    def test_make(self):
        self.hall.refused(NoName, lambda hall: hall.make("A", "a +"))
        self.hall.refused(NoName, lambda hall: hall.make("abcdefg", "31"))
        self.hall.refused(NoName, lambda hall: hall.make("abcdefg", "3"))
        self.hall.refused(NoRecipe, lambda hall: hall.make("k", "a +"))
        self.hall.refused(NoRecipe, lambda hall: hall.make("a", "a +"))
        self.hall.refused(Full, lambda hall: hall.make("k", "a + 1"))


class NothingChangedTest(unittest.TestCase):
    def test_what_is_refused_changes_nothing(self):
        works = {"a": "b + w & 9", "b": "a", "c": "a + v", "d": "c"}
        for deed, refusal in (
            (lambda hall: hall.put("A", 3), NoName), (lambda hall: hall.put("a", 31), NoNumber),
            (lambda hall: hall.put("w", -1), NoNumber), (lambda hall: hall.make("", "3"), NoName),
            (lambda hall: hall.make("a", "b +"), NoRecipe), (lambda hall: hall.make("w", "31"), NoRecipe),
            (lambda hall: hall.put("new", 3), Full), (lambda hall: hall.make("new", "a"), Full),
            (lambda hall: hall.ask("a1"), NoName),
        ):
            hall = watched(self, {"w": 2, "v": 1, **{name: 0 for name in ("e", "f", "g", "h")}}, works)
            hall.ask("d")
            hall.refused(refusal, deed)
            self.assertEqual(hall.hall.rings(), [["a", "b"]])
            self.assertEqual(hall.asked("d"), (10, []))
            hall.put("v", 2)
            hall.hall.ask("d")
            hall.refused(refusal, deed)
            self.assertEqual([run[0] for run in hall.hall.runs()], ["c", "d"])


if __name__ == "__main__":
    unittest.main()
