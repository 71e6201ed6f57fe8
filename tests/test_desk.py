import unittest

from anewhall.book import told
from anewhall.desk import Desk
from anewhall.hall import Hall


def said(desk, *rows):
    """The answers of rows, said one after another."""
    return [desk.said(row) for row in rows]


class DeskTest(unittest.TestCase):
    def test_its_hall(self):
        desk = Desk()
        hall = desk.hall()
        self.assertIs(type(hall), Hall)
        self.assertEqual(told(hall), [])
        said(desk, "well w 4", "work a w + 1")
        self.assertIs(desk.hall(), hall)
        self.assertEqual(told(hall), ["work a w + 1", "well w 4"])
        hall.put("w", 7)
        self.assertEqual(desk.said("ask a"), "8")
        self.assertEqual(told(Desk().hall()), [])

    def test_answers_are_texts(self):
        desk = Desk()
        for row in ("well w 4", "work a w", "ask a", "runs", "runs", "mark", "back 0", "ask", "", "well A 1"):
            self.assertIs(type(desk.said(row)), str)

    def test_well_work_and_ask(self):
        desk = Desk()
        self.assertEqual(said(desk, "well w 4", "ask w", "work a w+1", "ask a", "ask x"), ["done", "4", "done", "5", "0"])
        self.assertEqual(said(desk, "well w 05", "ask a", "well w 30", "ask a"), ["done", "6", "done", "30"])
        self.assertEqual(said(desk, "work w [a 0]", "work w  [ z 1 ] (a)  ", "ask a"), ["no recipe", "done", "1"])

    def test_runs(self):
        desk = Desk()
        said(desk, "well w 4", "work a b + c", "work b c", "work c w")
        self.assertEqual(said(desk, "runs", "ask a", "runs", "runs"), ["-", "8", "c b a", "-"])
        self.assertEqual(said(desk, "ask a", "runs", "work b 3", "ask b", "ask a", "runs"), ["8", "-", "done", "3", "7", "b a"])
        self.assertEqual(said(desk, "work d d + 1 & 2", "ask d", "runs"), ["done", "2", "d d d"])

    def test_runs_taken_from_the_hall_are_taken(self):
        desk = Desk()
        said(desk, "work a 7", "ask a")
        self.assertEqual(desk.hall().runs(), [("a", [], 7)])
        self.assertEqual(desk.said("runs"), "-")

    def test_mark_and_back(self):
        desk = Desk()
        self.assertEqual(said(desk, "well w 4", "mark", "well w 5", "mark"), ["done", "0", "done", "1"])
        self.assertEqual(said(desk, "back 0", "ask w", "back 01", "ask w"), ["done", "4", "done", "5"])
        self.assertEqual(said(desk, *["mark"] * 8), ["2", "3", "4", "5", "6", "7", "8", "full"])
        self.assertEqual(said(desk, "back 8", "back 08", "back 00", "ask w"), ["done", "done", "done", "4"])


class RefusedTest(unittest.TestCase):
    def setUp(self):
        self.desk = Desk()
        said(self.desk, "well w 4", "work a b | w", "work b a & 9", "work c a + v", "ask c", "mark", "ask w")
        said(self.desk, "well v 2", "ask c")

    def assert_said(self, answer, *rows):
        """The rows have this answer, and change nothing."""
        hall = self.desk.hall()
        for row in rows:
            with self.subTest(row=row):
                before = (told(hall), hall.rings(), hall.leans("a"), hall.leans("c"))
                self.assertEqual(self.desk.said(row), answer)
                self.assertEqual((told(hall), hall.rings(), hall.leans("a"), hall.leans("c")), before)
        self.assertEqual(hall.runs()[-1], ("c", [("a", 4), ("v", 2)], 6))
        self.assertEqual(hall.ask("c"), 6)
        self.assertEqual(hall.runs(), [])

    def test_no_name(self):
        self.assert_said(
            "no name", "ask A", "ask ", "ask abcdefg", "ask a b", "ask  a", "ask a ", "ask 7", "ask w 4", "ask ask a",
            "well A 3", "well  3", "well abcdefg 3", "well A 31", "work A 3", "work  a 3", "work  a", "work a1 a +",
        )

    def test_no_number(self):
        self.assert_said("no number", "well w 31", "well a 99", "well new 32")

    def test_no_recipe(self):
        self.assert_said("no recipe", "work a b +", "work a ", "work w 31", "work a 05", "work new (a", "work a   ")

    def test_full(self):
        self.assertEqual(said(self.desk, *[f"well {name} 1" for name in "fghij"]), ["done"] * 5)
        for _ in range(8):
            self.desk.said("mark")
        self.assert_said("full", "well k 1", "work k 1", "mark", "work z a")

    def test_no_point(self):
        self.assert_said("no point", "back 1", "back 01", "back 9", "back 99", "back 10")

    def test_no_row(self):
        self.assert_said(
            "no row", "", " ", "  ", "a", "well", "well ", "well w", "well w ", "wellw 3", "work", "work ", "work a",
            "Well w 3", " well w 3", " work a 3", "wells w 3", "well w 100", "well w 005", "well w -1", "well w +3",
            "well w a", "well w 3 ", "well w  3", "well  w 3", "well w 3 3", "well A 100", "put w 3", "make a 3",
            "ask", "asks a", "Ask a", " ask a", "aska", "ask\ta",
        )

    def test_mark_and_runs_with_something_behind(self):
        self.assert_said(
            "no row", "mark ", "mark 0", "marks", " mark", "Mark", "mark mark", "mark a 3", "mark\n",
            "runs ", "runs a", "run", " runs", "Runs", "runs runs", "runs a 3", "runs\n",
        )

    def test_back_of_another_form(self):
        self.assert_said(
            "no row", "back", "back ", "back 000", "back 001", "back 100", "back a", "back -1", "back -", "back +0",
            "back  0", "back 0 ", "back 0 0", "back 0a", "back\t0", "back0", " back 0", "Back 0", "back a 3", "back \u0660",
        )


if __name__ == "__main__":
    unittest.main()
