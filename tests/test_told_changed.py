import unittest

from anewhall.book import opened, told
from watching import hall_of

WORKS = {"a": "b | w", "b": "a & 9", "c": "a + v + a", "d": "c"}


def all_told(hall):
    """All that a hall tells but its runs, made of copies."""
    leans = {name: list(hall.leans(name)) for name in "abcdwvx"}
    return leans, [list(ring) for ring in hall.rings()], dict(hall.wells()), dict(hall.works()), list(told(hall))


class ToldChangedTest(unittest.TestCase):
    def setUp(self):
        self.hall = hall_of({"w": 4, "v": 1}, WORKS)
        self.hall.ask("d")
        self.hall.mark()
        self.before = all_told(self.hall)

    def assert_unchanged(self):
        """The hall tells what it told, and nothing must be run anew, also behind going back."""
        for _ in range(2):
            self.assertEqual(all_told(self.hall), self.before)
            self.hall.runs()
            for name, answer in (("a", 4), ("b", 4), ("c", 9), ("d", 9), ("w", 4), ("x", 0)):
                self.assertEqual(self.hall.ask(name), answer)
            self.assertEqual(self.hall.runs(), [])
            self.hall.back(0)

    def test_runs(self):
        runs = self.hall.runs()
        for run in runs:
            run[1].append(("x", 3))
            run[1][0] = ("w", 30)
            del run[1][1:]
        runs.append(("x", [], 3))
        runs.clear()
        self.assertEqual(self.hall.runs(), [])
        self.assert_unchanged()

    def test_runs_of_a_later_ask(self):
        self.hall.runs()
        self.hall.put("v", 2)
        self.hall.ask("c")
        expected = [("c", [("a", 4), ("v", 2), ("a", 4)], 10)]
        runs = self.hall.runs()
        self.assertEqual(runs, expected)
        runs[0][1].clear()
        self.hall.back(0)
        self.hall.put("v", 2)
        self.hall.ask("c")
        self.assertEqual(self.hall.runs(), expected)

    def test_leans(self):
        for name in "abcdwvx":
            leans = self.hall.leans(name)
            leans.append("x")
            leans[0] = "v"
            self.hall.leans(name).clear()
        self.assert_unchanged()

    def test_rings(self):
        rings = self.hall.rings()
        rings[0].append("c")
        rings[0][0] = "x"
        rings.append(["d"])
        self.hall.rings()[0].clear()
        self.hall.rings().clear()
        self.assert_unchanged()

    def test_wells(self):
        wells = self.hall.wells()
        wells["w"] = 30
        wells["a"] = 3
        del wells["v"]
        self.hall.wells().clear()
        self.assert_unchanged()

    def test_works(self):
        works = self.hall.works()
        works["a"] = "7"
        works["w"] = "7"
        del works["c"]
        self.hall.works().clear()
        self.assert_unchanged()

    def test_rows_of_a_book(self):
        rows = told(self.hall)
        rows[0] = "well a 3"
        rows.pop()
        told(self.hall).clear()
        self.assert_unchanged()

    def test_rows_that_were_handed_in_and_are_changed_afterwards(self):
        rows = told(self.hall)
        hall = opened(rows)
        rows[0] = "well a 3"
        rows.clear()
        self.assertEqual(told(hall), self.before[-1])
        self.assertEqual(hall.ask("d"), 9)

    def test_what_a_new_hall_tells(self):
        hall = hall_of({}, {})
        hall.runs().append(("a", [], 3))
        hall.leans("a").append("b")
        hall.rings().append(["a"])
        hall.wells()["a"] = 3
        hall.works()["b"] = "3"
        told(hall).append("well a 3")
        self.assertEqual((hall.runs(), all_told(hall)), ([], ({name: [] for name in "abcdwvx"}, [], {}, {}, [])))


if __name__ == "__main__":
    unittest.main()
