"""One ask: which works it comes to, which ones it runs, and how often.

Works are come to depth first. Each one that is come to has a place in the order
of coming, and a lowest place: that of the earliest work, not settled yet, to
which it is known to lead. Where a work's lowest place is its own, it and what
was come to behind it lead to nothing unsettled ahead of it: the rings among
them can be run until nothing rises, and all of them are settled then.
"""

from anewhall.keeping import Knot, Run
from anewhall.pieces import answer_of
from anewhall.rings import knots_of


class Asking:
    """An ask of a work, over a hall's numbers, recipes and what it keeps.

    kept has, for each kept work, its knot; the ask changes it.
    """

    def __init__(self, numbers, recipes, kept):
        self.numbers = numbers
        self.recipes = recipes
        self.kept = kept
        # All runs of this ask, in the order in which they ended, and those of each work.
        self.ended = []
        self.ran = {}
        self.place = {}
        self.lowest = {}
        self.settled = {}

    def outcome(self, name):
        """The answer of the work asked; what was run is kept behind it."""
        self.begin(name)
        self.keep()
        return self.stands_at(name)

    def stands_at(self, name):
        """What a name stands at by now."""
        if name in self.ran:
            return self.ran[name][-1].answer
        if name not in self.recipes:
            return self.numbers.get(name, 0)
        if name in self.settled:
            return self.kept[name].last_run(name).answer
        return 0

    def come_to(self, name, reader):
        """Comes to a name for a work that reads it now, or read it when it was kept."""
        if name not in self.recipes or name in self.settled:
            return
        if name not in self.place:
            self.begin(name)
        elif name in self.kept:
            # Its knot is still looked at for being good, so this leads back to it.
            self.let_go(name)
        self.lowest[reader] = min(self.lowest[reader], self.lowest[name])

    def begin(self, name):
        """Comes to a work for the first time."""
        self.place[name] = self.lowest[name] = len(self.place)
        if self.is_good(name):
            for other in self.kept[name].recipes:
                self.settled[other] = True
        else:
            self.let_go(name)
            self.run(name)
            self.settle(name)

    def is_good(self, name):
        """Whether a work is kept and its knot is good, as far as the ask can see by now."""
        if name not in self.kept:
            return False
        knot = self.kept[name]
        if self.is_odd(knot):
            return False
        for other, answer in knot.outside_from(name):
            self.come_to(other, name)
            leads_back = name not in self.kept or self.lowest[name] < self.place[name]
            if leads_back or self.stands_at(other) != answer:
                return False
        return True

    def is_odd(self, knot):
        """Whether one of a knot's works isn't a work any more, or has another recipe."""
        return any([self.recipes.get(name) != recipe for name, recipe in knot.recipes.items()])

    def let_go(self, name):
        """Lets go the knot of a name, if there is one."""
        if name in self.kept:
            knot = self.kept[name]
            for other in knot.recipes:
                del self.kept[other]

    def run(self, name):
        """Runs a work once."""
        reads = []

        def ask(other):
            self.come_to(other, name)
            stand = self.stands_at(other)
            reads.append((other, stand))
            return stand

        answer = answer_of(self.recipes[name], ask)
        run = Run(name, reads, answer)
        self.ended.append(run)
        self.ran.setdefault(name, []).append(run)

    def settle(self, first):
        """Runs works again from the first one on, until nothing that they read has risen.

        A run may find that the first one leads to a work ahead of it: then all
        this is settled with that one.
        """
        while self.lowest[first] == self.place[first]:
            risen = self.risen_from(first)
            if risen == []:
                for name in self.come_to_since(first):
                    self.settled[name] = True
                return
            # The one whose first run ended earliest: those that read it wait for it.
            name = risen[0]
            self.run(name)
            self.lowest[first] = min(self.lowest[first], self.lowest[name])

    def risen_from(self, first):
        """The works from the first one on that were run and of which a read has risen since."""
        works = self.come_to_since(first)
        return [name for name in self.ran if name in works and self.has_risen(name)]

    def come_to_since(self, first):
        """The works that were come to from the first one on."""
        return [name for name, place in self.place.items() if place >= self.place[first]]

    def has_risen(self, name):
        """Whether a name that a work read in its last run stands at a greater answer by now."""
        reads = self.ran[name][-1].reads
        return any([self.stands_at(other) > answer for other, answer in reads])

    def keep(self):
        """Keeps the works that were run, in the knots in which they are by their last runs."""
        leans = {name: runs[-1].names_read() for name, runs in self.ran.items()}
        for names in knots_of(list(self.ran), leans):
            recipes = {name: self.recipes[name] for name in names}
            knot = Knot(recipes, {name: self.ran[name] for name in names})
            for name in names:
                self.kept[name] = knot
