"""A hall of wells and works, asked for answers."""

from anewhall.asking import Asking
from anewhall.errors import Full, NoName, NoNumber, NoPoint
from anewhall.pieces import GREATEST, shown
from anewhall.reading import is_name, read

MOST_NAMES = 10
MOST_POINTS = 9


class Hall:
    """Wells, works, and what was reckoned of these and is kept."""

    def __init__(self):
        self.numbers = {}
        self.recipes = {}
        # From each kept work's name to its knot.
        self.kept = {}
        self.untaken = []
        self.points = []

    def put(self, name, number):
        """Makes the name a well with that number."""
        check_name(name)
        if not 0 <= number <= GREATEST:
            raise NoNumber("a number below 0 or above the greatest one")
        self.check_room(name)
        self.numbers[name] = number
        if name in self.recipes:
            del self.recipes[name]

    def make(self, name, text):
        """Makes the name a work with the recipe of the text."""
        check_name(name)
        recipe = read(text)
        self.check_room(name)
        self.recipes[name] = recipe
        if name in self.numbers:
            del self.numbers[name]

    def check_room(self, name):
        """Refuses a new name where there is no room for one."""
        if name in self.numbers or name in self.recipes:
            return
        if len(self.numbers) + len(self.recipes) >= MOST_NAMES:
            raise Full("a name too many")

    def ask(self, name):
        """The answer of a name."""
        check_name(name)
        if name not in self.recipes:
            return self.numbers.get(name, 0)
        asking = Asking(self.numbers, self.recipes, self.kept)
        answer = asking.outcome(name)
        self.untaken.extend(asking.ended)
        return answer

    def runs(self):
        """All runs since this was called last, as (name, reads, answer), as they ended."""
        told = [(run.name, list(run.reads), run.answer) for run in self.untaken]
        self.untaken = []
        return told

    def leans(self, name):
        """The names that a kept work read in its last run; none where it is no kept work."""
        if name not in self.recipes or name not in self.kept:
            return []
        return self.kept[name].last_run(name).names_read()

    def rings(self):
        """The kept knots that are rings, each a sorted list of names, sorted."""
        rings = []
        for name, knot in self.kept.items():
            names = sorted(knot.recipes)
            # Each knot stands there for each of its works: it is told for the first one.
            if name == names[0] and knot.is_ring():
                rings.append(names)
        return sorted(rings)

    def mark(self):
        """A point to which one can go back."""
        if len(self.points) >= MOST_POINTS:
            raise Full("a point too many")
        self.points.append((dict(self.numbers), dict(self.recipes), dict(self.kept)))
        return len(self.points) - 1

    def back(self, point):
        """Makes wells, works and all that is kept what they were at the point."""
        if not 0 <= point < len(self.points):
            raise NoPoint("a number that is no point")
        numbers, recipes, kept = self.points[point]
        # Copies, since one may go back to the same point again.
        self.numbers = dict(numbers)
        self.recipes = dict(recipes)
        self.kept = dict(kept)

    def wells(self):
        """From each well's name to its number, in the order of names."""
        return {name: self.numbers[name] for name in sorted(self.numbers)}

    def works(self):
        """From each work's name to its recipe's text, in the order of names."""
        return {name: shown(self.recipes[name]) for name in sorted(self.recipes)}


def check_name(text):
    """Refuses a text that is no name."""
    if not is_name(text):
        raise NoName("a text that is no name")
