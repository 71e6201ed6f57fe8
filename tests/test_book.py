import itertools
import unittest

from anewhall.book import opened, told
from anewhall.errors import Full, NoName, NoNumber, NoRecipe, NoRow
from anewhall.hall import Hall
from watching import hall_of


def assert_refused(test, refusal, *rows):
    """The rows are refused, with just this refusal, and are left as they are."""
    given = list(rows)
    with test.subTest(rows=rows):
        with test.assertRaises(refusal) as caught:
            opened(given)
        test.assertIs(type(caught.exception), refusal)
        test.assertEqual(given, list(rows))


class ToldTest(unittest.TestCase):
    def test_a_new_hall(self):
        self.assertEqual(told(Hall()), [])

    def test_wells_and_works_in_the_order_of_names(self):
        hall = hall_of({"c": 0, "ab": 30, "b": 7}, {"d": "((c|2))&[ a 3 ](b)", "a": "b+c", "bb": "(9)"})
        rows = told(hall)
        self.assertIs(type(rows), list)
        self.assertEqual(rows, [
            "work a b + c", "well ab 30", "well b 7", "work bb 9", "well c 0", "work d (c | 2) & [a 3] b",
        ])

    def test_what_was_asked_is_not_told(self):
        hall = hall_of({"w": 3}, {"a": "b | w", "b": "a"})
        rows = told(hall)
        hall.ask("a")
        self.assertEqual(told(hall), rows)
        self.assertEqual(len(hall.runs()) > 0, True)

    def test_telling_takes_no_runs(self):
        hall = hall_of({"w": 3}, {"a": "w"})
        hall.ask("a")
        told(hall)
        self.assertEqual(hall.runs(), [("a", [("w", 3)], 3)])

    def test_what_is_told_is_opened_to_the_same(self):
        hall = hall_of({"w": 3, "v": 30}, {"a": "b & v | w", "b": "[a 2] (b + 1)", "c": "(a | b) + w & 20"})
        again = opened(told(hall))
        self.assertEqual((again.wells(), again.works(), told(again)), (hall.wells(), hall.works(), told(hall)))
        for name in "abcwvx":
            self.assertEqual(again.ask(name), hall.ask(name))


class OpenedTest(unittest.TestCase):
    def test_no_rows(self):
        hall = opened([])
        self.assertIs(type(hall), Hall)
        self.assertEqual(told(hall), [])

    def test_each_form_of_row(self):
        hall = opened(["well w 4", "work a w + 1", "well v 30", "work b [a 5] (v & w)"])
        self.assertEqual((hall.wells(), hall.works()), ({"v": 30, "w": 4}, {"a": "w + 1", "b": "[a 5] (v & w)"}))
        self.assertEqual((hall.ask("b"), hall.mark()), (4, 0))

    def test_nothing_was_run_in_a_new_hall(self):
        hall = opened(["work a a + 1"])
        self.assertEqual((hall.runs(), hall.rings(), hall.leans("a")), ([], [], []))

    def test_rows_in_whatever_order(self):
        rows = ["work a b + w", "work b 3", "well w 2", "well v 1"]
        for order in itertools.permutations(rows):
            self.assertEqual(told(opened(list(order))), sorted(rows, key=lambda row: row.split()[1]))

    def test_a_name_more_than_once(self):
        self.assertEqual(told(opened(["well a 3", "well a 4"])), ["well a 4"])
        self.assertEqual(told(opened(["well a 3", "work a b"])), ["work a b"])
        self.assertEqual(told(opened(["work a b", "work a c", "well b 2", "well a 3", "work a 7"])),
                         ["work a 7", "well b 2"])

    def test_ten_names_and_eleven(self):
        ten = [f"well {name} 1" for name in "abcdefghij"]
        self.assertEqual(told(opened(ten + ["work a 3"])), ["work a 3"] + ten[1:])
        assert_refused(self, Full, *ten, "well k 1")
        assert_refused(self, Full, *ten, "work k 1")

    def test_rows_handed_in_are_not_changed(self):
        rows = ["well b 05", "work a  b+1"]
        opened(rows)
        self.assertEqual(rows, ["well b 05", "work a  b+1"])

    def test_halls_opened_are_apart(self):
        rows = ["well a 5"]
        one, other = opened(rows), opened(rows)
        one.put("a", 6)
        self.assertEqual((one.ask("a"), other.ask("a")), (6, 5))


class FormOfRowsTest(unittest.TestCase):
    def test_rows_with_no_blank_or_with_one(self):
        assert_refused(self, NoRow, "")
        for word in ("well", "work"):
            for row in (word, f"{word} ", f"{word} a", f"{word}a", f"{word}a 3"):
                assert_refused(self, NoRow, row)
        assert_refused(self, NoRow, " ")
        assert_refused(self, NoRow, "a")

    def test_rows_with_another_first_word(self):
        for row in (
            "wells a 3", "works a 3", "wel a 3", "Well a 3", "WORK a 3", "a b 3", "ask a 3", "back a 3", "wellwork a 3",
            " well a 3", " work a 3", "  well a 3", "well\ta 3 3", "\u0461ell a 3", "-well a 3", "  ", "   3",
        ):
            assert_refused(self, NoRow, row)

    def test_rows_with_two_blanks_side_by_side(self):
        assert_refused(self, NoRow, "well  a 3")
        assert_refused(self, NoRow, "well a  3")
        assert_refused(self, NoName, "well  3")
        assert_refused(self, NoName, "work  a 3")
        assert_refused(self, NoName, "work  a")
        assert_refused(self, NoName, "work  ")
        assert_refused(self, NoRow, "well  ")
        self.assertEqual(told(opened(["work a  b  +  c"])), ["work a b + c"])

    def test_rows_with_blanks_at_the_end(self):
        assert_refused(self, NoRow, "well a 3 ")
        assert_refused(self, NoRow, "well a ")
        assert_refused(self, NoRow, "well a  ")
        assert_refused(self, NoRecipe, "work a ")
        assert_refused(self, NoRecipe, "work a   ")
        self.assertEqual(told(opened(["work a b "])), ["work a b"])

    def test_figures_of_a_wells_number(self):
        for text, number in (("0", 0), ("5", 5), ("00", 0), ("05", 5), ("10", 10), ("29", 29), ("30", 30)):
            self.assertEqual(opened([f"well a {text}"]).wells(), {"a": number})
        for text in ("31", "32", "99"):
            assert_refused(self, NoNumber, f"well a {text}")
        for text in (
            "", "000", "005", "030", "100", "031", "-1", "+5", "-", "5.", "5 5", " 5", "5 ", "a", "b", "5a", "a5", "0x",
            "\u0665", "\u00b2", "5\n", "\n5", "1_", "\uff15", "w + 1",
        ):
            assert_refused(self, NoRow, f"well a {text}")

    def test_other_refusals_are_those_of_the_deeds(self):
        assert_refused(self, NoName, "well abcdefg 3")
        assert_refused(self, NoName, "well A 3")
        assert_refused(self, NoName, "work a1 3")
        assert_refused(self, NoRecipe, "work a b +")
        assert_refused(self, NoRecipe, "work a 05")
        assert_refused(self, NoRecipe, "work a 31")

    def test_two_things_wrong_in_one_row(self):
        assert_refused(self, NoRow, "well A 100")
        assert_refused(self, NoRow, "well abcdefg -1")
        assert_refused(self, NoRow, "wells A 31")
        assert_refused(self, NoRow, "works A a +")
        assert_refused(self, NoRow, "work A")
        assert_refused(self, NoRow, "well A")
        assert_refused(self, NoName, "well A 31")
        assert_refused(self, NoName, "work A a +")
        ten = [f"well {name} 1" for name in "abcdefghij"]
        assert_refused(self, NoRow, *ten, "well k 100")
        assert_refused(self, NoNumber, *ten, "well k 31")
        assert_refused(self, NoRecipe, *ten, "work k k +")
        assert_refused(self, NoName, *ten, "work K 1")

    def test_of_two_odd_rows_it_is_the_first_ones_refusal(self):
        odd = {
            "well": NoRow, "well a 100": NoRow, "well A 3": NoName, "work B 3": NoName, "well a 31": NoNumber,
            "work a a +": NoRecipe,
        }
        for (one, refusal), other in itertools.product(odd.items(), odd):
            assert_refused(self, refusal, one, other)
            assert_refused(self, refusal, "well w 3", one, "work b w", other, "well v 3")


if __name__ == "__main__":
    unittest.main()
