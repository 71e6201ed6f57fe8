import itertools
import random
import unittest

from anewhall.rings import knots_of, led_to


class LedToTest(unittest.TestCase):
    def assert_led(self, name, leans, expected):
        """What a name leads to, the dict and its lists being left as they are."""
        before = {each: list(others) for each, others in leans.items()}
        with self.subTest(name=name, leans=before):
            told = led_to(name, leans)
            self.assertIs(type(told), list)
            self.assertEqual(told, expected)
            self.assertEqual(list(leans.items()), list(before.items()))

    def test_a_name_that_is_not_in_the_dict_leads_to_none(self):
        self.assert_led("a", {}, [])
        self.assert_led("a", {"b": ["a"]}, [])

    def test_a_name_that_leans_on_nothing_leads_to_none(self):
        self.assert_led("a", {"a": []}, [])
        self.assert_led("a", {"a": [], "b": ["a", "c"]}, [])

    def test_chains(self):
        leans = {"a": ["b"], "b": ["c"], "c": ["d"]}
        self.assert_led("a", leans, ["b", "c", "d"])
        self.assert_led("b", leans, ["c", "d"])
        self.assert_led("c", leans, ["d"])
        self.assert_led("d", leans, [])

    def test_forks_that_meet(self):
        leans = {"a": ["c", "b"], "b": ["d"], "c": ["d"], "d": ["e"]}
        self.assert_led("a", leans, ["b", "c", "d", "e"])
        self.assert_led("c", leans, ["d", "e"])

    def test_a_name_that_leads_back_to_itself(self):
        self.assert_led("a", {"a": ["a"]}, ["a"])
        self.assert_led("a", {"a": ["b"], "b": ["a"]}, ["a", "b"])
        self.assert_led("b", {"a": ["b"], "b": ["a"]}, ["a", "b"])
        ring = {"a": ["b"], "b": ["c"], "c": ["d"], "d": ["e"], "e": ["a"]}
        for name in ring:
            self.assert_led(name, ring, ["a", "b", "c", "d", "e"])

    def test_a_name_that_leads_into_a_ring_without_being_in_it(self):
        self.assert_led("a", {"a": ["b"], "b": ["c"], "c": ["b"]}, ["b", "c"])
        self.assert_led("a", {"a": ["b"], "b": ["b"]}, ["b"])
        self.assert_led("a", {"a": ["b"], "b": ["c", "x"], "c": ["b"], "x": ["y"]}, ["b", "c", "x", "y"])

    def test_names_are_told_once_and_sorted_as_texts(self):
        leans = {"m": ["z", "b", "ab", "z", "a"], "z": ["aa", "b"], "a": ["b"]}
        self.assert_led("m", leans, ["a", "aa", "ab", "b", "z"])

    def test_a_name_is_led_to_whether_or_not_it_is_in_the_dict(self):
        self.assert_led("a", {"a": ["x"], "b": ["y"]}, ["x"])

    def test_a_long_chain(self):
        names = [f"n{at}" for at in range(3000)]
        leans = {name: [after] for name, after in zip(names, names[1:])}
        self.assertEqual(led_to("n0", leans), sorted(names[1:]))

    def test_what_is_told_may_be_changed(self):
        leans = {"a": ["b"], "b": ["c"]}
        led_to("a", leans).append("x")
        self.assertEqual(led_to("a", leans), ["b", "c"])
        led_to("c", leans).append("x")
        self.assertEqual(led_to("c", leans), [])
        one = {"a": ["b"]}
        led_to("a", one).clear()
        self.assertEqual(one, {"a": ["b"]})


class KnotsOfTest(unittest.TestCase):
    def assert_knots(self, names, leans, expected):
        """How names are parted, the list, the dict and its lists being left as they are."""
        names_before = list(names)
        before = {each: list(others) for each, others in leans.items()}
        with self.subTest(names=names_before, leans=before):
            told = knots_of(names, leans)
            self.assertIs(type(told), list)
            for knot in told:
                self.assertIs(type(knot), list)
            self.assertEqual(told, expected)
            self.assertEqual(names, names_before)
            self.assertEqual(list(leans.items()), list(before.items()))

    def test_no_names(self):
        self.assert_knots([], {}, [])
        self.assert_knots([], {"a": ["b"], "b": ["a"]}, [])

    def test_no_ring(self):
        self.assert_knots(["a"], {}, [["a"]])
        self.assert_knots(["a", "b", "c"], {"a": ["b", "c"], "b": ["c"]}, [["a"], ["b"], ["c"]])
        self.assert_knots(["c", "a", "b"], {"a": ["b", "c"], "b": ["c"], "c": []}, [["c"], ["a"], ["b"]])

    def test_a_work_that_leans_on_itself(self):
        self.assert_knots(["b", "a"], {"a": ["a"]}, [["b"], ["a"]])
        self.assert_knots(["b", "a"], {"a": ["a", "b"], "b": []}, [["b"], ["a"]])

    def test_two_rings_that_touch_in_one_direction_only(self):
        leans = {"a": ["b"], "b": ["a", "c"], "c": ["d"], "d": ["c"]}
        self.assert_knots(["a", "b", "c", "d"], leans, [["a", "b"], ["c", "d"]])
        self.assert_knots(["d", "b", "c", "a"], leans, [["d", "c"], ["b", "a"]])

    def test_two_rings_that_touch_in_both_directions_are_one(self):
        leans = {"a": ["b"], "b": ["a", "c"], "c": ["d"], "d": ["c", "a"]}
        self.assert_knots(["d", "a", "c", "b"], leans, [["d", "a", "c", "b"]])

    def test_a_ring_of_many(self):
        names = list("jcaibhdgfe")
        leans = {name: [names[at - 1], "outside"] for at, name in enumerate(names)}
        self.assert_knots(names, leans, [names])
        self.assert_knots(sorted(names), leans, [sorted(names)])

    def test_leanings_on_names_that_are_not_handed_in_do_not_count(self):
        leans = {"a": ["x"], "x": ["b"], "b": ["y"], "y": ["a"]}
        self.assert_knots(["a", "b"], leans, [["a"], ["b"]])
        self.assert_knots(["a", "b", "x"], leans, [["a"], ["b"], ["x"]])
        self.assert_knots(["a", "b", "x", "y"], leans, [["a", "b", "x", "y"]])

    def test_knots_stand_by_their_first_ones(self):
        leans = {"a": ["d"], "d": ["a"], "b": ["e"], "e": ["b"]}
        self.assert_knots(["a", "b", "c", "d", "e"], leans, [["a", "d"], ["b", "e"], ["c"]])
        self.assert_knots(["e", "c", "d", "b", "a"], leans, [["e", "b"], ["c"], ["d", "a"]])

    def test_what_is_told_may_be_changed(self):
        names, leans = ["a", "b", "c"], {"a": ["b"], "b": ["a"]}
        told = knots_of(names, leans)
        told[0].append("x")
        told[1].clear()
        told.append(["y"])
        self.assert_knots(names, leans, [["a", "b"], ["c"]])

    def test_long_chains_and_rings(self):
        names = [f"n{at}" for at in range(400)]
        leans = {name: [after] for name, after in zip(names, names[1:])}
        self.assertEqual(knots_of(names, leans), [[name] for name in names])
        leans[names[-1]] = [names[0]]
        self.assertEqual(knots_of(names, leans), [names])

    def test_drawn_leanings(self):
        chance = random.Random(5)
        for _ in range(400):
            every = list("abcdefg")
            leans = {name: chance.sample(every, chance.choice((0, 0, 1, 1, 2, 3))) for name in every}
            names = chance.sample(every, chance.randint(1, 7))
            steps = {(one, other) for one in every for other in leans[one]}
            for middle, one, other in itertools.product(every, repeat=3):
                if (one, middle) in steps and (middle, other) in steps:
                    steps.add((one, other))
            for name in every:
                self.assert_led_by(steps, name, leans)
            self.assert_parted(names, leans)

    def assert_led_by(self, steps, name, leans):
        self.assertEqual(led_to(name, leans), sorted(other for one, other in steps if one == name))

    def assert_parted(self, names, leans):
        """Two names are in one knot where each leads to the other by names handed in."""
        within = {name: [other for other in leans[name] if other in names] for name in names}
        knots = knots_of(names, leans)
        self.assertEqual(sorted(sum(knots, [])), sorted(names))
        self.assertEqual([knot[0] for knot in knots], sorted((knot[0] for knot in knots), key=names.index))
        for knot in knots:
            self.assertEqual(knot, sorted(knot, key=names.index))
        for one, other in itertools.permutations(names, 2):
            together = any(one in knot and other in knot for knot in knots)
            self.assertEqual(together, other in led_to(one, within) and one in led_to(other, within))


if __name__ == "__main__":
    unittest.main()
