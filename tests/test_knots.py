import unittest

from watching import hall_of, watched


class RingsTest(unittest.TestCase):
    """What each ask runs, and what each run reads, is looked at by the watched hall."""

    def assert_asked(self, hall, name, answer, run, rings):
        """An ask's answer, the names of what it ran, and the rings kept behind it."""
        told, names = hall.asked(name)
        self.assertEqual(told, answer)
        self.assertEqual(sorted(set(names)), sorted(run))
        self.assertEqual(hall.hall.rings(), rings)

    def test_a_ring_that_stays_at_0(self):
        hall = watched(self, {"w": 9}, {"a": "b & w", "b": "c | x", "c": "a"})
        self.assertEqual(hall.hall.rings(), [])
        told, names = hall.asked("a")
        self.assertEqual((told, sorted(names)), (0, ["a", "b", "c"]))
        self.assertEqual(hall.hall.rings(), [["a", "b", "c"]])
        self.assertEqual(hall.hall.leans("a"), ["b"])
        for name in "abc":
            self.assert_asked(hall, name, 0, "", [["a", "b", "c"]])

    def test_a_ring_that_rises_to_30(self):
        hall = watched(self, {}, {"a": "b + 1", "b": "a"})
        self.assert_asked(hall, "b", 30, "ab", [["a", "b"]])
        self.assert_asked(hall, "a", 30, "", [["a", "b"]])

    def test_a_ring_that_rises_to_something_between(self):
        hall = watched(self, {"w": 4}, {"a": "b | w", "b": "a & 9", "c": "a + b"})
        self.assert_asked(hall, "c", 8, "abc", [["a", "b"]])

    def test_a_work_that_leans_on_itself(self):
        hall = watched(self, {"w": 2}, {"a": "a + w & 9", "b": "a", "c": "c", "d": "b + c"})
        self.assert_asked(hall, "d", 9, "abcd", [["a"], ["c"]])
        self.assert_asked(hall, "d", 9, "", [["a"], ["c"]])
        hall.put("w", 3)
        self.assert_asked(hall, "d", 9, "a", [["a"], ["c"]])

    def test_a_ring_that_is_found_only_where_a_work_has_risen(self):
        hall = watched(self, {"w": 1}, {"a": "[b 1] c", "b": "w", "c": "d | 3", "d": "[c 3] a"})
        self.assert_asked(hall, "a", 3, "abcd", [["a", "c", "d"]])
        hall = watched(self, {}, {"a": "[a 3] b | 5", "b": "c", "c": "7"})
        self.assert_asked(hall, "a", 7, "abc", [["a"]])
        hall = watched(self, {}, {"a": "b | 5", "b": "[a 5] c | a & 1", "c": "[a 5] (a + 1) & 9"})
        self.assert_asked(hall, "a", 9, "abc", [["a", "b", "c"]])

    def test_a_ring_found_while_another_one_is_run_again(self):
        # That b leads to the first ring shows only once c has risen.
        hall = watched(self, {}, {"a": "b | c", "b": "c", "c": "c + 1 & 4 | [c 4] a"})
        self.assert_asked(hall, "a", 4, "abc", [["a", "b", "c"]])
        hall = watched(self, {}, {"a": "b + 1 & 20", "b": "c", "c": "d", "d": "c + 1 & 4 | [c 4] a"})
        self.assert_asked(hall, "a", 20, "abcd", [["a", "b", "c", "d"]])

    def test_a_work_that_was_kept_behind_a_ring_that_turns_out_to_lead_to_it(self):
        # That m leads to a shows only once f has risen; k read what f comes to again.
        for text in ("f & 2", "f"):
            for bound in (1, 2, 3):
                hall = watched(self, {}, {"a": "f & k", "f": "m + 1 & 3", "k": "f", "m": text})
                self.assert_asked(hall, "k", 3, "fkm", [["f", "m"]])
                hall.make("m", f"{text} | [f {bound}] a")
                self.assert_asked(hall, "a", 3, "afkm", [["a", "f", "k", "m"]])

    def test_two_rings_one_leaning_on_the_other(self):
        works = {"a": "b + 1 & 5", "b": "a", "c": "d + b & 20", "d": "c | 2"}
        hall = watched(self, {}, works)
        self.assert_asked(hall, "d", 20, "abcd", [["a", "b"], ["c", "d"]])
        hall.make("d", "c | 3")
        self.assert_asked(hall, "c", 20, "cd", [["a", "b"], ["c", "d"]])
        hall.make("a", "b + 1 & 6")
        self.assert_asked(hall, "b", 6, "ab", [["a", "b"], ["c", "d"]])
        self.assert_asked(hall, "d", 20, "cd", [["a", "b"], ["c", "d"]])
        hall.make("a", "b + 2 & 6")
        self.assert_asked(hall, "d", 20, "ab", [["a", "b"], ["c", "d"]])

    def test_a_ring_of_ten(self):
        names = "abcdefghij"
        works = {name: names[at - 1] for at, name in enumerate(names)}
        hall = watched(self, {}, {**works, "e": "d + 1 & 3"})
        self.assert_asked(hall, "h", 3, names, [list(names)])
        self.assert_asked(hall, "c", 3, "", [list(names)])
        hall.make("a", "2")
        self.assert_asked(hall, "c", 2, "abc", [])
        self.assert_asked(hall, "j", 3, "defghij", [])

    def test_a_ring_that_is_asked_again_is_not_run(self):
        hall = watched(self, {"w": 4}, {"a": "b | w", "b": "c", "c": "a", "d": "c"})
        hall.ask("d")
        for name in "dcabd":
            self.assert_asked(hall, name, 4, "", [["a", "b", "c"]])

    def test_rings_are_told_sorted(self):
        hall = watched(self, {}, {"d": "c", "c": "d", "b": "a", "a": "b", "aa": "aa", "z": "d + b + aa"})
        hall.ask("z")
        self.assertEqual(hall.hall.rings(), [["a", "b"], ["aa"], ["c", "d"]])

    def test_how_often_the_works_of_a_ring_are_run(self):
        hall = hall_of({}, {"a": "b + 1 & 2", "b": "a", "c": "7 + b"})
        hall.ask("c")
        runs = hall.runs()
        self.assertEqual([run[0] for run in runs].count("c"), 1)
        for run in runs:
            if run[0] == "c":
                self.assertEqual(run, ("c", [("b", 2)], 9))
        for name in "ab":
            answers = [run[2] for run in runs if run[0] == name]
            self.assertEqual(answers, sorted(answers))
            self.assertEqual(answers[-1], 2)
            self.assertLessEqual(len(answers), 4)


class LetGoTest(unittest.TestCase):
    assert_asked = RingsTest.assert_asked

    def test_because_a_work_of_it_was_made_anew(self):
        for asked, run in (("a", "abc"), ("b", "abc"), ("c", "abc"), ("d", "abcd")):
            hall = watched(self, {"w": 4}, {"a": "b | w", "b": "c", "c": "a", "d": "c"})
            hall.ask("d")
            hall.make("b", "c + 1 & 6")
            self.assertEqual(hall.hall.rings(), [["a", "b", "c"]])
            self.assert_asked(hall, asked, 6, run, [["a", "b", "c"]])
            self.assert_asked(hall, "d", 6, "" if asked == "d" else "d", [["a", "b", "c"]])

    def test_because_a_work_of_it_leads_elsewhere_now(self):
        hall = watched(self, {"w": 4}, {"a": "b | w", "b": "c", "c": "a", "d": "c"})
        hall.ask("d")
        hall.make("b", "7")
        self.assert_asked(hall, "b", 7, "b", [])
        self.assertEqual((hall.hall.leans("a"), hall.hall.leans("b"), hall.hall.leans("c")), ([], [], []))
        self.assertEqual(hall.hall.leans("d"), ["c"])
        self.assert_asked(hall, "d", 7, "acd", [])

    def test_because_a_work_of_it_is_a_well_by_now(self):
        hall = watched(self, {"w": 4}, {"a": "b | w", "b": "c", "c": "a"})
        hall.ask("a")
        hall.put("b", 4)
        self.assertEqual(hall.hall.rings(), [["a", "b", "c"]])
        self.assertEqual((hall.hall.leans("a"), hall.hall.leans("b")), (["b", "w"], []))
        self.assert_asked(hall, "a", 4, "a", [])
        self.assertEqual(hall.hall.leans("c"), [])
        self.assert_asked(hall, "c", 4, "c", [])

    def test_a_ring_with_a_work_made_anew_by_the_recipe_that_it_had_is_good(self):
        hall = watched(self, {"w": 4}, {"a": "b | w", "b": "c", "c": "a"})
        hall.ask("a")
        hall.make("a", "(b)|w")
        self.assert_asked(hall, "c", 4, "", [["a", "b", "c"]])

    def test_because_an_outside_name_changed(self):
        hall = watched(self, {"w": 4, "v": 3}, {"a": "b | w", "b": "c", "c": "a & x", "x": "v + 9", "d": "c"})
        self.assert_asked(hall, "d", 4, "abcxd", [["a", "b", "c"]])
        hall.put("w", 6)
        self.assert_asked(hall, "d", 6, "abcd", [["a", "b", "c"]])
        hall.put("v", 2)
        self.assert_asked(hall, "d", 6, "abcx", [["a", "b", "c"]])
        hall.make("x", "v + 9 | 2")
        self.assert_asked(hall, "b", 6, "x", [["a", "b", "c"]])
        hall.put("v", 0)
        hall.put("w", 0)
        self.assert_asked(hall, "c", 0, "abc", [["a", "b", "c"]])

    def test_an_outside_name_that_a_ring_did_not_read_is_not_come_to(self):
        hall = watched(self, {"w": 0}, {"a": "b & w & x", "b": "a | [w 3] x", "x": "5"})
        self.assert_asked(hall, "a", 0, "ab", [["a", "b"]])
        hall.make("x", "6")
        self.assert_asked(hall, "b", 0, "", [["a", "b"]])
        self.assert_asked(hall, "x", 6, "x", [["a", "b"]])

    def test_an_outside_name_that_a_ring_might_not_read_any_more_is_not_come_to(self):
        # With w at 0 the asked work p doesn't lead to q, which alone reads x.
        for text in ("p | x", "x | p"):
            for first in "pq":
                hall = watched(self, {"w": 4, "v": 1}, {"p": "[w 3] q | w", "q": text, "x": "v"})
                self.assert_asked(hall, first, 4, "pqx", [["p", "q"]])
                hall.put("w", 0)
                hall.put("v", 2)
                self.assert_asked(hall, "p", 0, "p", [])
                self.assert_asked(hall, "x", 2, "x", [])
                self.assert_asked(hall, "q", 2, "q", [])

    def test_nor_one_that_was_read_only_because_a_work_of_the_ring_had_risen(self):
        # p reads x only where q has risen, and q rises only where w does.
        for number in (1, 2, 4):
            for first in "pq":
                hall = watched(self, {"w": number, "v": 1}, {"p": "[q 1] x", "q": "p | w", "x": "v"})
                self.assert_asked(hall, first, {"p": 1, "q": number}[first], "pqx", [["p", "q"]])
                hall.put("w", 0)
                hall.put("v", 2)
                self.assert_asked(hall, "p", 0, "pq", [["p", "q"]])
                self.assert_asked(hall, "x", 2, "x", [["p", "q"]])

    def test_nor_one_that_was_read_behind_a_gate_of_such_a_work(self):
        for first in "pq":
            works = {"p": "[q 1] x", "q": "p | [w 1] y", "x": "v", "y": "v"}
            hall = watched(self, {"w": 1, "v": 1}, works)
            self.assert_asked(hall, first, 1, "pqxy", [["p", "q"]])
            hall.put("w", 0)
            hall.put("v", 2)
            self.assert_asked(hall, "p", 0, "pq", [["p", "q"]])
            self.assert_asked(hall, "y", 2, "y", [["p", "q"]])

    def test_nor_one_that_was_read_only_behind_the_ring_had_risen_once(self):
        # y is read only where p has come to 2, by way of x; both are behind what w opens.
        for first in "pq":
            works = {"p": "q | [q 1] x", "q": "[p 2] y | w", "x": "v", "y": "v & 2"}
            hall = watched(self, {"w": 1, "v": 3}, works)
            self.assert_asked(hall, first, {"p": 3, "q": 2}[first], "pqxy", [["p", "q"]])
            hall.put("v", 1)
            self.assert_asked(hall, "q", 1, "pqx", [["p", "q"]])
            hall.put("w", 0)
            hall.put("v", 3)
            self.assert_asked(hall, "p", 0, "pq", [["p", "q"]])

    def test_because_an_outside_name_now_leads_back_to_it(self):
        for text, ring in (("a | 2", "abx"), ("b & 2 | 2", "abx"), ("c | 2", "abcx")):
            for asked in "abcx":
                hall = watched(self, {"x": 2}, {"a": "b | x", "b": "a", "c": "b"})
                self.assert_asked(hall, "c", 2, "abc", [["a", "b"]])
                hall.make("x", text)
                # x comes to the answer that it had, so c is run only where it is in the ring.
                self.assert_asked(hall, asked, 2, ring, [list(ring)])
                self.assert_asked(hall, "c", 2, "", [list(ring)])
                hall.put("x", 2)
                self.assert_asked(hall, "c", 2, ring.replace("x", ""), [["a", "b"]])

    def test_because_an_outside_name_leads_back_over_others_that_were_kept(self):
        for asked in "abxyz":
            hall = watched(self, {"x": 2}, {"a": "b | y", "b": "a", "y": "z", "z": "x"})
            self.assert_asked(hall, "a", 2, "abyz", [["a", "b"]])
            hall.make("x", "b")
            self.assert_asked(hall, asked, 0, "abxyz", [["a", "b", "x", "y", "z"]])

    def test_a_work_in_no_ring_comes_into_one(self):
        hall = watched(self, {"x": 2}, {"a": "x + 1 & 8", "b": "a"})
        self.assert_asked(hall, "b", 3, "ab", [])
        hall.make("x", "b")
        self.assertEqual(hall.hall.rings(), [])
        self.assert_asked(hall, "a", 8, "abx", [["a", "b", "x"]])

    def test_a_ring_that_becomes_two(self):
        hall = watched(self, {"w": 1}, {"a": "b", "b": "a | [w 1] c", "c": "d | a & 1", "d": "c | 4"})
        self.assert_asked(hall, "a", 4, "abcd", [["a", "b", "c", "d"]])
        hall.make("c", "d")
        self.assert_asked(hall, "a", 4, "abcd", [["a", "b"], ["c", "d"]])
        hall.put("w", 0)
        self.assert_asked(hall, "a", 0, "ab", [["a", "b"], ["c", "d"]])
        self.assert_asked(hall, "d", 4, "", [["a", "b"], ["c", "d"]])

    def test_two_rings_that_become_one(self):
        hall = watched(self, {"w": 0}, {"a": "b | c", "b": "a", "c": "d | 3", "d": "c | [w 1] a"})
        self.assert_asked(hall, "a", 3, "abcd", [["a", "b"], ["c", "d"]])
        hall.put("w", 1)
        self.assert_asked(hall, "d", 3, "abcd", [["a", "b", "c", "d"]])
        hall.put("w", 0)
        self.assert_asked(hall, "c", 3, "cd", [["c", "d"]])
        self.assert_asked(hall, "b", 3, "ab", [["a", "b"], ["c", "d"]])

    def test_a_ring_is_let_go_only_where_it_is_come_to(self):
        hall = watched(self, {"w": 1, "v": 1}, {"a": "b | w", "b": "a", "c": "d | v", "d": "c", "e": "[v 2] a | c"})
        self.assert_asked(hall, "a", 1, "ab", [["a", "b"]])
        self.assert_asked(hall, "e", 1, "cde", [["a", "b"], ["c", "d"]])
        hall.put("w", 5)
        hall.make("b", "a + 1 & 7")
        self.assert_asked(hall, "e", 1, "", [["a", "b"], ["c", "d"]])
        self.assertEqual((hall.hall.leans("a"), hall.hall.leans("b")), (["b", "w"], ["a"]))
        hall.put("v", 2)
        self.assert_asked(hall, "e", 7, "abcde", [["a", "b"], ["c", "d"]])

    def test_rings_stay_behind_put_and_make_without_an_ask(self):
        hall = watched(self, {"w": 1}, {"a": "b | w", "b": "a", "c": "c"})
        hall.ask("a")
        hall.ask("c")
        hall.put("w", 2)
        hall.make("b", "3")
        hall.put("a", 7)
        hall.make("c", "c + 1")
        self.assertEqual(hall.hall.rings(), [["a", "b"], ["c"]])
        hall.make("a", "b")
        self.assertEqual(hall.hall.rings(), [["a", "b"], ["c"]])
        self.assertEqual((hall.hall.leans("a"), hall.hall.leans("b")), (["b", "w"], ["a"]))
        self.assert_asked(hall, "a", 3, "ab", [["c"]])
        self.assert_asked(hall, "c", 30, "c", [["c"]])


if __name__ == "__main__":
    unittest.main()
