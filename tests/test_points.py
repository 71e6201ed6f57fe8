import unittest

from anewhall.errors import Full, NoPoint
from anewhall.hall import Hall
from watching import hall_of, watched


class MarkTest(unittest.TestCase):
    def test_nine_points_and_a_tenth_one(self):
        hall = watched(self, {"w": 1}, {"a": "w"})
        for point in range(9):
            self.assertEqual(hall.hall.mark(), point)
        for _ in range(2):
            hall.refused(Full, lambda hall: hall.mark())
        for point in range(9):
            self.assertIsNone(hall.hall.back(point))
        hall.refused(Full, lambda hall: hall.mark())
        hall.refused(NoPoint, lambda hall: hall.back(9))

    def test_points_count_on_behind_going_back(self):
        hall = watched(self, {}, {})
        for _ in range(3):
            hall.mark()
        hall.back(0)
        hall.mark()
        self.assertEqual(len(hall.points), 4)
        self.assertEqual(hall.hall.mark(), 4)

    def test_a_mark_changes_nothing(self):
        hall = watched(self, {"w": 1}, {"a": "b | w", "b": "a"})
        hall.ask("a")
        hall.mark()
        self.assertEqual(hall.asked("b"), (1, []))


class BackTest(unittest.TestCase):
    def test_numbers_that_are_no_points(self):
        hall = watched(self, {"w": 1}, {"a": "w"})
        hall.refused(NoPoint, lambda hall: hall.back(0))
        hall.mark()
        hall.ask("a")
        hall.put("w", 2)
        for number in (-1, 1, 2, 9, -9, 100, 2 ** 70):
            hall.refused(NoPoint, lambda hall: hall.back(number))
        self.assertEqual(hall.asked("a"), (2, ["a"]))
        hall.mark()
        hall.refused(NoPoint, lambda hall: hall.back(2))
        hall.refused(NoPoint, lambda hall: hall.back(-1))
        hall.refused(NoPoint, lambda hall: hall.back(-2))

    def test_wells_and_works(self):
        hall = watched(self, {"w": 1}, {"a": "w + 1"})
        hall.mark()
        hall.put("w", 2)
        hall.put("a", 3)
        hall.make("b", "a")
        hall.mark()
        hall.make("w", "7")
        hall.back(0)
        self.assertEqual((hall.hall.wells(), hall.hall.works()), ({"w": 1}, {"a": "w + 1"}))
        self.assertEqual((hall.ask("a"), hall.ask("b")), (2, 0))
        hall.back(1)
        self.assertEqual((hall.hall.wells(), hall.hall.works()), ({"a": 3, "w": 2}, {"b": "a"}))
        self.assertEqual((hall.ask("a"), hall.ask("b")), (3, 3))

    def test_what_was_not_kept_at_the_point_is_run_again(self):
        hall = watched(self, {"w": 1}, {"a": "w", "b": "a"})
        hall.mark()
        self.assertEqual(hall.asked("b"), (1, ["a", "b"]))
        hall.back(0)
        self.assertEqual((hall.hall.leans("a"), hall.hall.leans("b")), ([], []))
        self.assertEqual(hall.asked("a"), (1, ["a"]))
        self.assertEqual(hall.asked("b"), (1, ["b"]))

    def test_what_was_kept_at_the_point_is_kept_again(self):
        hall = watched(self, {"w": 1}, {"a": "w", "b": "a"})
        hall.ask("b")
        hall.mark()
        hall.put("w", 2)
        self.assertEqual(hall.asked("b"), (2, ["a", "b"]))
        hall.make("b", "7")
        hall.ask("b")
        hall.put("a", 3)
        hall.back(0)
        self.assertEqual((hall.hall.leans("a"), hall.hall.leans("b")), (["w"], ["a"]))
        self.assertEqual(hall.asked("b"), (1, []))
        hall.put("w", 2)
        self.assertEqual(hall.asked("b"), (2, ["a", "b"]))

    def test_what_was_kept_and_is_not_good_at_the_point_is_not_good_again(self):
        hall = watched(self, {"w": 1}, {"a": "w", "b": "a"})
        hall.ask("b")
        hall.put("w", 2)
        hall.mark()
        self.assertEqual(hall.asked("b"), (2, ["a", "b"]))
        hall.back(0)
        self.assertEqual(hall.asked("b"), (2, ["a", "b"]))

    def test_going_back_twice(self):
        hall = watched(self, {"w": 1}, {"a": "b | w", "b": "a", "c": "a"})
        hall.ask("a")
        hall.mark()
        for number in (5, 6):
            hall.put("w", number)
            self.assertEqual(hall.ask("c"), number)
            hall.make("b", "3")
            hall.ask("b")
            self.assertEqual(hall.hall.rings(), [])
            hall.back(0)
            self.assertEqual(hall.hall.rings(), [["a", "b"]])
            self.assertEqual(hall.hall.leans("c"), [])
            self.assertEqual(hall.asked("b"), (1, []))
            self.assertEqual(hall.asked("c"), (1, ["c"]))

    def test_to_an_earlier_and_then_to_a_later_point(self):
        hall = watched(self, {"w": 1}, {"a": "w", "b": "a"})
        hall.mark()
        hall.ask("b")
        hall.mark()
        hall.make("a", "b | w")
        hall.ask("a")
        hall.mark()
        hall.put("b", 9)
        for _ in range(2):
            hall.back(0)
            self.assertEqual((hall.hall.rings(), hall.hall.leans("b")), ([], []))
            self.assertEqual(hall.asked("b"), (1, ["a", "b"]))
            hall.back(2)
            self.assertEqual((hall.hall.rings(), hall.hall.leans("a")), ([["a", "b"]], ["b", "w"]))
            self.assertEqual(hall.asked("b"), (1, []))
            hall.put("w", 4)
            self.assertEqual(hall.ask("b"), 4)
            hall.back(1)
            self.assertEqual((hall.hall.rings(), hall.hall.leans("a")), ([], ["w"]))
            self.assertEqual(hall.asked("b"), (1, []))
        hall.back(2)
        self.assertEqual(hall.asked("a"), (1, []))

    def test_runs_not_taken_stay_as_they_are(self):
        hall = hall_of({"w": 1}, {"a": "w", "b": "a"})
        hall.mark()
        hall.ask("a")
        hall.mark()
        hall.ask("b")
        hall.back(0)
        hall.ask("a")
        hall.back(1)
        self.assertEqual([run[0] for run in hall.runs()], ["a", "b", "a"])
        hall.back(0)
        self.assertEqual(hall.runs(), [])

    def test_rings_let_go_behind_a_point_and_what_is_run_by_the_next_asks(self):
        hall = watched(self, {"w": 1}, {"a": "b + 1 & 5", "b": "a | w", "c": "d | b", "d": "c"})
        hall.ask("c")
        hall.mark()
        hall.make("d", "7")
        hall.ask("d")
        self.assertEqual(hall.hall.rings(), [["a", "b"]])
        hall.mark()
        hall.put("w", 6)
        hall.ask("c")
        self.assertEqual(hall.hall.rings(), [["a", "b"]])
        hall.back(0)
        self.assertEqual(hall.hall.rings(), [["a", "b"], ["c", "d"]])
        self.assertEqual(hall.asked("d"), (5, []))
        hall.back(1)
        self.assertEqual(hall.asked("d"), (7, []))
        self.assertEqual(hall.asked("c"), (7, ["c"]))

    def test_halls_keep_their_own_points(self):
        one, other = Hall(), Hall()
        one.mark()
        with self.assertRaises(NoPoint):
            other.back(0)


if __name__ == "__main__":
    unittest.main()
