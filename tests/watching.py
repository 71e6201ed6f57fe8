"""A hall that is watched: all that it tells is held against what the document asks.

What an ask must run is reckoned apart from the program's own way: from the
least answers of all works, which the program's asks never reckon as a whole.
Where the document leaves open whether a knot is let go (a name leads back to
it, but not by steps behind the ask alone), this program keeps it.
"""

from anewhall.hall import Hall
from anewhall.least import least
from anewhall.pieces import answer_of
from anewhall.reading import read
from helping import told


class KeptKnot:
    """What is known of a kept knot: from each of its works to (text, reads, answer)."""

    def __init__(self, works):
        self.works = works
        leans = {name: names_in(reads) for name, (_, reads, _) in works.items()}
        self.is_ring = len(works) > 1 or any(name in leans[name] for name in works)


class Watched:
    """A hall, and what is known of it."""

    def __init__(self, test):
        self.test = test
        self.hall = Hall()
        self.wells = {}
        self.works = {}
        self.kept = {}
        self.points = []
        # How often drawn halls came to what; a, b and c are rings that were let go, by [10].
        self.seen = {"a": 0, "b": 0, "c": 0, "good ring": 0, "new ring": 0, "run again": 0, "good": 0}

    def put(self, name, number):
        self.test.assertIsNone(self.hall.put(name, number))
        self.works.pop(name, None)
        self.wells[name] = number
        self.check()

    def make(self, name, text):
        self.test.assertIsNone(self.hall.make(name, text))
        self.wells.pop(name, None)
        self.works[name] = told(text)
        self.check()

    def mark(self):
        self.test.assertEqual(self.hall.mark(), len(self.points))
        self.points.append((dict(self.wells), dict(self.works), dict(self.kept)))
        self.check()

    def back(self, point):
        self.test.assertIsNone(self.hall.back(point))
        self.wells, self.works, self.kept = (dict(each) for each in self.points[point])
        self.check()

    def refused(self, refusal, deed):
        """The deed, done with the hall, is refused, and with just this refusal."""
        with self.test.assertRaises(refusal) as caught:
            deed(self.hall)
        self.test.assertIs(type(caught.exception), refusal)
        self.check()

    def check(self):
        """All that the hall tells, but for its runs, which telling takes."""
        test, hall = self.test, self.hall
        test.assertEqual(list(hall.wells().items()), sorted(self.wells.items()))
        test.assertEqual(list(hall.works().items()), sorted(self.works.items()))
        test.assertEqual(hall.rings(), self.rings())
        for name in {**self.wells, **self.works, **self.kept, "zz": 0}:
            test.assertEqual(hall.leans(name), self.leans(name), name)

    def rings(self):
        knots = {id(knot): knot for knot in self.kept.values()}
        return sorted(sorted(knot.works) for knot in knots.values() if knot.is_ring)

    def leans(self, name):
        if name not in self.works or name not in self.kept:
            return []
        return names_in(self.kept[name].works[name][1])

    def ask(self, name):
        """The name's answer; what the ask ran is taken, and looked at."""
        return self.asked(name)[0]

    def asked(self, name):
        """The name's answer, and the names of what was run, in order, as often as it was."""
        self.test.assertEqual(self.hall.runs(), [])
        answers = {**self.wells, **least(self.wells, self.works)}
        leans, reads = self.leant_on(name, answers)
        for knot in {id(knot): knot for knot in self.kept.values()}.values():
            if any(other in leans for other in knot.works):
                self.look_at(knot, answers, leans)
        run_names = [other for other in leans if other not in self.kept]
        answer = self.hall.ask(name)
        self.test.assertEqual(answer, answers.get(name, 0))
        runs = self.hall.runs()
        last_runs = self.check_runs(runs, run_names, answers, leans)
        self.test.assertEqual(last_runs, {each: (reads[each], answers[each]) for each in run_names})
        for knot in knots_among(run_names, leans):
            kept = KeptKnot({each: (self.works[each], reads[each], answers[each]) for each in knot})
            self.seen["new ring"] += kept.is_ring
            self.kept.update({each: kept for each in knot})
        # What was good ahead of the ask must be what it would be if it were run, too.
        for each in leans:
            self.test.assertEqual(self.kept[each].works[each], (self.works[each], reads[each], answers[each]))
        self.check()
        return answer, [run[0] for run in runs]

    def leant_on(self, name, answers):
        """From each work that the name leans on behind the ask, itself too, to its names; and to its reads."""
        leans, reads, ahead = {}, {}, [name]
        while ahead:
            work = ahead.pop(0)
            if work in self.works and work not in leans:
                reads[work] = reads_of(self.works[work], answers)
                leans[work] = names_in(reads[work])
                ahead += leans[work]
        return leans, reads

    def look_at(self, knot, answers, leans):
        """Lets a knot go that is come to, unless it is good."""
        lost = None
        outside = [read for _, reads, _ in knot.works.values() for read in reads if read[0] not in knot.works]
        if any(self.works.get(name) != text for name, (text, _, _) in knot.works.items()):
            lost = "a"
        elif any(answers.get(name, 0) != answer for name, answer in outside):
            lost = "b"
        elif any(name in led(other, leans) for other, _ in outside for name in knot.works):
            lost = "c"
        if lost:
            self.seen[lost] += knot.is_ring
            for name in knot.works:
                del self.kept[name]
        else:
            self.seen["good"] += 1
            self.seen["good ring"] += knot.is_ring

    def check_runs(self, runs, run_names, answers, leans):
        """What was run in an ask, how often, and what each run read; what is told of each work's last run."""
        test = self.test
        told_last, reads_last = {}, {}
        for name, reads, answer in runs:
            test.assertIs(type(reads), list)
            test.assertEqual(replayed(self.works[name], reads), answer)
            for other, got in reads:
                if other in run_names and name in led(other, leans):
                    test.assertEqual(got, told_last.get(other, 0))
                else:
                    test.assertEqual(got, answers.get(other, 0))
            if name in told_last:
                self.seen["run again"] += 1
                test.assertIn(name, led(name, leans))
                test.assertTrue(any(told_last.get(other, 0) > got for other, got in reads_last[name]))
            told_last[name], reads_last[name] = answer, reads
        return {name: (reads_last[name], told_last[name]) for name in told_last}


def watched(test, wells, works):
    """A watched hall with these wells, and works with these texts."""
    hall = Watched(test)
    for name, number in wells.items():
        hall.put(name, number)
    for name, text in works.items():
        hall.make(name, text)
    return hall


def hall_of(wells, works):
    """A hall with these wells, and works with these texts."""
    hall = Hall()
    for name, number in wells.items():
        hall.put(name, number)
    for name, text in works.items():
        hall.make(name, text)
    return hall


def names_in(reads):
    """The names of reads, each once, by where they stand first."""
    return list(dict(reads))


def reads_of(text, answers):
    """What a recipe reads where the names have these answers."""
    reads = []

    def ask(name):
        reads.append((name, answers.get(name, 0)))
        return reads[-1][1]

    answer_of(read(text), ask)
    return reads


def replayed(text, reads):
    """The answer of a recipe that reads these, all of them and nothing else."""
    ahead = list(reads)

    def ask(name):
        other, answer = ahead.pop(0)
        if other != name:
            raise AssertionError(f"{name} asked where {other} was told")
        return answer

    answer = answer_of(read(text), ask)
    if ahead:
        raise AssertionError(f"{ahead} told, but not asked")
    return answer


def led(name, leans):
    """All names to which a name leads."""
    found, ahead = set(), list(leans.get(name, []))
    while ahead:
        other = ahead.pop()
        if other not in found:
            found.add(other)
            ahead += leans.get(other, [])
    return found


def knots_among(names, leans):
    """The names parted into knots; the leanings on others, which were kept all along, lead to none of them."""
    ways = {name: led(name, leans) for name in names}
    knots = {tuple(o for o in names if o == name or (o in ways[name] and name in ways[o])) for name in names}
    return sorted(knots)
