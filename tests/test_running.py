import unittest

from anewhall.errors import Full, NoName, NoNumber, NoPoint, NoRecipe
from anewhall.hall import Hall
from watching import hall_of, watched


class AnswersTest(unittest.TestCase):
    def test_wells_works_and_names_that_are_neither(self):
        hall = watched(self, {"w": 5, "z": 0}, {"a": "w + 2", "b": "a + x", "c": "x | 3"})
        self.assertEqual(hall.asked("w"), (5, []))
        self.assertEqual(hall.asked("z"), (0, []))
        self.assertEqual(hall.asked("x"), (0, []))
        self.assertEqual(hall.asked("b"), (7, ["a", "b"]))
        self.assertEqual(hall.asked("a"), (7, []))
        self.assertEqual(hall.asked("c"), (3, ["c"]))

    def test_each_piece(self):
        wells = {"w": 20, "v": 15, "u": 0}
        for text, answer in (
            ("7", 7), ("w", 20), ("w + v", 30), ("w & v", 15), ("w | v", 20), ("[w 20] v", 15), ("[w 21] v", 0),
            ("u & w", 0), ("[u 1] w | v", 15), ("(u | v) & w", 15), ("[v 3] (u + 2)", 2),
        ):
            with self.subTest(text=text):
                self.assertEqual(watched(self, wells, {"a": text}).asked("a"), (answer, ["a"]))

    def test_works_that_nobody_asks_for_are_not_run(self):
        hall = watched(self, {"w": 1}, {"a": "w", "b": "a", "c": "b"})
        self.assertEqual(hall.asked("b"), (1, ["a", "b"]))

    def test_a_name_put_or_made_behind_an_ask(self):
        hall = watched(self, {}, {"a": "x + 1"})
        self.assertEqual(hall.asked("a"), (1, ["a"]))
        hall.put("x", 4)
        self.assertEqual(hall.asked("a"), (5, ["a"]))
        hall.make("x", "6")
        self.assertEqual(hall.asked("a"), (7, ["x", "a"]))


class RunsTest(unittest.TestCase):
    def test_a_new_hall_has_run_nothing(self):
        self.assertEqual(Hall().runs(), [])

    def test_what_a_run_tells(self):
        hall = hall_of({"w": 5}, {"a": "w + 2"})
        hall.ask("a")
        self.assertEqual(hall.runs(), [("a", [("w", 5)], 7)])

    def test_a_run_that_reads_nothing(self):
        hall = hall_of({}, {"a": "7"})
        hall.ask("a")
        self.assertEqual(hall.runs(), [("a", [], 7)])

    def test_kinds_of_what_is_told(self):
        hall = hall_of({"w": 5}, {"a": "w + b", "b": "3"})
        hall.ask("a")
        runs = hall.runs()
        self.assertIs(type(runs), list)
        for run in runs:
            self.assertIs(type(run), tuple)
            self.assertEqual([type(each) for each in run], [str, list, int])
            for read in run[1]:
                self.assertIs(type(read), tuple)
                self.assertEqual([type(each) for each in read], [str, int])

    def test_reads_stand_in_order_as_often_as_they_were_asked(self):
        hall = hall_of({"w": 5, "v": 2}, {"a": "v + w + v | [w 5] w"})
        hall.ask("a")
        self.assertEqual(hall.runs(), [("a", [("v", 2), ("w", 5), ("v", 2), ("w", 5), ("w", 5)], 9)])

    def test_what_is_not_asked_is_not_read(self):
        hall = hall_of({"w": 5, "z": 0}, {"a": "z & w & b", "b": "3", "c": "[w 6] b + z"})
        hall.ask("a")
        hall.ask("c")
        self.assertEqual(hall.runs(), [("a", [("z", 0)], 0), ("c", [("w", 5), ("z", 0)], 0)])

    def test_runs_stand_as_they_ended(self):
        hall = hall_of({"w": 1}, {"a": "b + c", "b": "d + 1", "c": "d + b", "d": "w"})
        hall.ask("a")
        self.assertEqual(hall.runs(), [
            ("d", [("w", 1)], 1),
            ("b", [("d", 1)], 2),
            ("c", [("d", 1), ("b", 2)], 3),
            ("a", [("b", 2), ("c", 3)], 5),
        ])

    def test_a_second_call_tells_none(self):
        hall = hall_of({}, {"a": "7", "b": "8"})
        hall.ask("a")
        self.assertEqual(len(hall.runs()), 1)
        self.assertEqual(hall.runs(), [])
        hall.ask("b")
        self.assertEqual(hall.runs(), [("b", [], 8)])
        self.assertEqual(hall.runs(), [])

    def test_runs_not_taken_stay(self):
        hall = hall_of({"w": 1, **{name: 0 for name in "stuvxyz"}}, {"a": "w", "b": "a"})
        hall.mark()
        hall.ask("a")
        hall.put("w", 2)
        hall.make("a", "w + 1")
        for refusal, deed in (
            (NoName, lambda: hall.ask("A")), (NoNumber, lambda: hall.put("w", 31)), (Full, lambda: hall.put("k", 3)),
            (NoRecipe, lambda: hall.make("a", "w +")), (NoPoint, lambda: hall.back(9)), (NoName, lambda: hall.put("", 1)),
        ):
            with self.assertRaises(refusal):
                deed()
        hall.ask("b")
        hall.back(0)
        hall.wells(), hall.works(), hall.rings(), hall.leans("a")
        hall.ask("a")
        hall.mark()
        hall.ask("a")
        self.assertEqual(hall.runs(), [
            ("a", [("w", 1)], 1), ("a", [("w", 2)], 3), ("b", [("a", 3)], 3), ("a", [("w", 1)], 1),
        ])

    def test_a_ring_tells_each_run(self):
        hall = hall_of({}, {"a": "a + 1 & 3"})
        hall.ask("a")
        self.assertEqual(hall.runs(), [
            ("a", [("a", 0)], 1), ("a", [("a", 1)], 2), ("a", [("a", 2)], 3), ("a", [("a", 3)], 3),
        ])


class NotRunTest(unittest.TestCase):
    def test_the_same_asked_again(self):
        hall = watched(self, {"w": 5}, {"a": "w + b", "b": "c | 2", "c": "w & x"})
        self.assertEqual(hall.asked("a"), (7, ["c", "b", "a"]))
        for name, answer in (("a", 7), ("b", 2), ("c", 0), ("a", 7)):
            self.assertEqual(hall.asked(name), (answer, []))

    def test_a_well_put_again_with_the_same_number(self):
        hall = watched(self, {"w": 5}, {"a": "w"})
        hall.ask("a")
        hall.put("w", 5)
        self.assertEqual(hall.asked("a"), (5, []))
        hall.put("w", 6)
        hall.put("w", 5)
        self.assertEqual(hall.asked("a"), (5, []))

    def test_what_changed_elsewhere(self):
        hall = watched(self, {"w": 5, "v": 6}, {"a": "w", "b": "v", "c": "a + b"})
        self.assertEqual(hall.asked("c"), (11, ["a", "b", "c"]))
        hall.put("v", 7)
        hall.make("d", "v")
        self.assertEqual(hall.asked("a"), (5, []))
        self.assertEqual(hall.asked("c"), (12, ["b", "c"]))

    def test_a_name_that_was_not_read(self):
        hall = watched(self, {"w": 0, "v": 6}, {"a": "w & v", "b": "[w 1] v", "c": "v | 7"})
        for name in "abc":
            hall.ask(name)
        hall.put("v", 8)
        self.assertEqual(hall.asked("a"), (0, []))
        self.assertEqual(hall.asked("b"), (0, []))
        self.assertEqual(hall.asked("c"), (8, ["c"]))

    def test_a_work_behind_a_gate_that_stays_shut_is_not_come_to(self):
        hall = watched(self, {"w": 2, "v": 6}, {"a": "[g 3] b", "g": "w", "b": "v"})
        self.assertEqual(hall.asked("a"), (0, ["g", "a"]))
        hall.put("v", 7)
        hall.make("b", "v + 1")
        self.assertEqual(hall.asked("a"), (0, []))
        self.assertEqual(hall.asked("b"), (8, ["b"]))

    def test_a_gate_that_stays_open_or_shut_over_a_work_that_comes_to_the_same(self):
        hall = watched(self, {"w": 4, "v": 6}, {"a": "[g 3] v", "h": "[g 4] v", "g": "[w 3] 3"})
        self.assertEqual(hall.asked("a"), (6, ["g", "a"]))
        self.assertEqual(hall.asked("h"), (0, ["h"]))
        hall.put("w", 9)
        self.assertEqual(hall.asked("a"), (6, ["g"]))
        self.assertEqual(hall.asked("h"), (0, []))

    def test_a_gate_whose_name_has_another_answer_is_run_though_it_stays_open(self):
        hall = watched(self, {"w": 4, "v": 6}, {"a": "[w 3] v"})
        hall.ask("a")
        hall.put("w", 5)
        self.assertEqual(hall.asked("a"), (6, ["a"]))

    def test_a_work_behind_one_whose_answer_came_out_the_same_anew(self):
        hall = watched(self, {"w": 4}, {"a": "b + 1", "b": "c & 3", "c": "w + 1"})
        self.assertEqual(hall.asked("a"), (4, ["c", "b", "a"]))
        hall.put("w", 9)
        self.assertEqual(hall.asked("a"), (4, ["c", "b"]))
        hall.make("c", "10")
        self.assertEqual(hall.asked("a"), (4, ["c"]))

    def test_reads_behind_the_first_one_that_changed_are_not_come_to(self):
        hall = watched(self, {"u": 3, "v": 6}, {"a": "b & c | d", "b": "u", "c": "v", "d": "v + 1"})
        self.assertEqual(hall.asked("a"), (7, ["b", "c", "d", "a"]))
        hall.put("u", 0)
        hall.put("v", 8)
        self.assertEqual(hall.asked("a"), (9, ["b", "d", "a"]))
        self.assertEqual(hall.hall.leans("a"), ["b", "d"])
        self.assertEqual(hall.asked("c"), (8, ["c"]))

    def test_reads_up_to_the_first_one_that_changed_are_seen_in_order(self):
        hall = watched(self, {"u": 3, "v": 6}, {"a": "b + [c 6] d", "b": "u & 2", "c": "v", "d": "u"})
        self.assertEqual(hall.asked("a"), (5, ["b", "c", "d", "a"]))
        hall.put("u", 4)
        hall.put("v", 5)
        self.assertEqual(hall.asked("a"), (2, ["b", "c", "a"]))

    def test_a_work_made_anew_is_not_seen_for_its_old_reads(self):
        hall = watched(self, {"w": 4}, {"a": "b + c", "b": "w", "c": "w + 1"})
        hall.ask("a")
        hall.put("w", 5)
        hall.make("a", "c")
        self.assertEqual(hall.asked("a"), (6, ["c", "a"]))
        self.assertEqual(hall.asked("b"), (5, ["b"]))

    def test_a_work_made_anew_with_the_recipe_that_it_had(self):
        hall = watched(self, {"w": 4}, {"a": "w + b", "b": "3"})
        hall.ask("a")
        hall.make("a", "w + b")
        hall.make("b", "(3)")
        self.assertEqual(hall.asked("a"), (7, []))
        hall.make("a", "w+(b)")
        self.assertEqual(hall.asked("a"), (7, []))
        hall.make("a", "b")
        hall.make("a", "w + b")
        self.assertEqual(hall.asked("a"), (7, []))

    def test_a_work_that_was_a_well_in_between(self):
        hall = watched(self, {"w": 4}, {"a": "w + 1", "b": "a"})
        hall.ask("b")
        hall.put("a", 9)
        self.assertEqual(hall.hall.leans("a"), [])
        hall.make("a", "w + 1")
        self.assertEqual(hall.hall.leans("a"), ["w"])
        self.assertEqual(hall.asked("b"), (5, []))

    def test_a_name_that_became_a_well_or_a_work_of_the_same_answer(self):
        hall = watched(self, {"w": 4}, {"a": "w + x", "b": "a"})
        hall.ask("b")
        hall.put("x", 0)
        self.assertEqual(hall.asked("b"), (4, []))
        hall.make("w", "3 + 1")
        self.assertEqual(hall.asked("b"), (4, ["w"]))
        hall.put("a", 4)
        self.assertEqual(hall.asked("b"), (4, []))


class RunTest(unittest.TestCase):
    def test_a_well_with_another_number(self):
        hall = watched(self, {"w": 4}, {"a": "w + 1", "b": "a"})
        hall.ask("b")
        for number in (5, 0, 30, 29):
            hall.put("w", number)
            self.assertEqual(hall.asked("b")[1], ["a", "b"] if number != 29 else ["a"])
        self.assertEqual(hall.ask("b"), 30)

    def test_a_work_made_anew_with_another_recipe(self):
        hall = watched(self, {"w": 4}, {"a": "w + 1", "b": "a"})
        hall.ask("b")
        hall.make("a", "w + 2")
        self.assertEqual(hall.asked("b"), (6, ["a", "b"]))
        hall.make("a", "w + 1 + 1")
        self.assertEqual(hall.asked("b"), (6, ["a"]))
        hall.make("b", "a | a")
        self.assertEqual(hall.asked("b"), (6, ["b"]))

    def test_a_work_made_anew_with_a_recipe_that_it_had_ahead_of_the_last_run(self):
        hall = watched(self, {"w": 4}, {"a": "w + 1"})
        hall.ask("a")
        hall.make("a", "w + 2")
        hall.ask("a")
        hall.make("a", "w + 1")
        self.assertEqual(hall.asked("a"), (5, ["a"]))

    def test_a_name_that_became_a_well_or_a_work(self):
        hall = watched(self, {"w": 4}, {"a": "w + x", "b": "a"})
        hall.ask("b")
        hall.put("x", 2)
        self.assertEqual(hall.asked("b"), (6, ["a", "b"]))
        hall.make("x", "w")
        self.assertEqual(hall.asked("b"), (8, ["x", "a", "b"]))
        hall.put("a", 3)
        self.assertEqual(hall.asked("b"), (3, ["b"]))

    def test_each_work_once_where_no_ring_is_come_to(self):
        wells = {"w": 1}
        works = {"a": "b + c + d", "b": "c + d | e", "c": "d + e + d", "d": "e + w", "e": "w + w"}
        hall = watched(self, wells, works)
        self.assertEqual(hall.asked("a")[1], ["e", "d", "c", "b", "a"])
        hall.put("w", 2)
        self.assertEqual(sorted(hall.asked("a")[1]), ["a", "b", "c", "d", "e"])
        hall.make("d", "7")
        self.assertEqual(sorted(hall.asked("a")[1]), ["a", "b", "c", "d"])

    def test_a_work_that_was_asked_for_by_itself_ahead(self):
        hall = watched(self, {"w": 1}, {"a": "b + c", "b": "w", "c": "b"})
        self.assertEqual(hall.asked("b"), (1, ["b"]))
        self.assertEqual(hall.asked("a"), (2, ["c", "a"]))
        hall.put("w", 3)
        self.assertEqual(hall.asked("c"), (3, ["b", "c"]))
        self.assertEqual(hall.asked("a"), (6, ["a"]))


class LeansTest(unittest.TestCase):
    def test_names_stand_once_by_where_they_were_read_first(self):
        hall = hall_of({"w": 5, "v": 2}, {"a": "v + w + v | [w 5] b", "b": "0 & v"})
        self.assertEqual(hall.leans("a"), [])
        hall.ask("a")
        self.assertEqual(hall.leans("a"), ["v", "w", "b"])
        self.assertEqual(hall.leans("b"), [])

    def test_names_that_are_no_kept_works(self):
        hall = watched(self, {"w": 5}, {"a": "w + b", "b": "w", "c": "a"})
        hall.ask("a")
        for name in ("w", "x", "c", "A", "", "abcdefgh"):
            self.assertEqual(hall.hall.leans(name), [])

    def test_behind_put_and_make_without_an_ask(self):
        hall = watched(self, {"w": 5}, {"a": "w + b", "b": "w"})
        hall.ask("a")
        hall.put("w", 9)
        self.assertEqual(hall.hall.leans("a"), ["w", "b"])
        hall.make("a", "7")
        self.assertEqual(hall.hall.leans("a"), ["w", "b"])
        hall.put("b", 3)
        self.assertEqual((hall.hall.leans("a"), hall.hall.leans("b")), (["w", "b"], []))
        hall.make("b", "a")
        self.assertEqual(hall.hall.leans("b"), ["w"])
        hall.ask("b")
        self.assertEqual((hall.hall.leans("a"), hall.hall.leans("b")), ([], ["a"]))

    def test_by_the_last_run(self):
        hall = watched(self, {"w": 5}, {"a": "[w 3] b", "b": "7"})
        hall.ask("a")
        self.assertEqual(hall.hall.leans("a"), ["w", "b"])
        hall.put("w", 2)
        hall.ask("a")
        self.assertEqual(hall.hall.leans("a"), ["w"])


if __name__ == "__main__":
    unittest.main()
