"""Drawn halls: each deed is looked at by the watched hall, from the least answers of all works."""

import random
import unittest

from anewhall.errors import NoName, NoNumber, NoPoint, NoRecipe
from anewhall.reading import read
from watching import Watched

NUMBERS = (0, 0, 1, 1, 2, 3, 5, 30)


class Mixed:
    """Few names, each of them a well at one time and a work at another; all kinds of pieces."""

    bounds = (1, 1, 2, 3, 6)
    signs = "+&&||"
    # Up to which draw a piece is a single one, and from there on a gate.
    single, gate = 0.25, 0.5
    # Up to which draw a deed is a put, and from there on a make.
    put, make = 0.18, 0.45

    def names(self, chance):
        names = list("abcdefghij"[:chance.randint(2, 8)])
        return names, names


class Gated:
    """Wells that are put again and again below works with many gates."""

    bounds = (1, 1, 2, 3)
    signs = "+&|||"
    single, gate = 0.2, 0.6
    put, make = 0.45, 0.5

    def names(self, chance):
        return list("uvw"[:chance.randint(1, 3)]), list("abcdefg"[:chance.randint(3, 7)])


def drawn_text(chance, style, names):
    """A text that is a recipe."""
    while True:
        text = drawn_piece(chance, style, names, 0)
        try:
            read(text)
        except NoRecipe:
            continue
        return text


def drawn_piece(chance, style, names, deep):
    draw = chance.random()
    if deep == 2 or draw < style.single:
        return chance.choice(names) if chance.random() < 0.8 else str(chance.choice(NUMBERS))
    if draw < style.gate:
        piece = in_brackets(drawn_piece(chance, style, names, deep + 1))
        return f"[{chance.choice(names)} {chance.choice(style.bounds)}] {piece}"
    sign = chance.choice(style.signs)
    pieces = [in_brackets(drawn_piece(chance, style, names, deep + 1)) for _ in range(chance.choice((2, 2, 3)))]
    return f" {sign} ".join(pieces)


def in_brackets(piece):
    """The piece, with brackets where it has a sign between its pieces."""
    return f"({piece})" if any(sign in piece for sign in "+&|") else piece


class DrawnHall:
    """A watched hall, and deeds drawn for it."""

    def __init__(self, test, style, seed):
        self.chance = random.Random(seed)
        self.style = style
        self.wells, self.works = style.names(self.chance)
        names = sorted({*self.wells, *self.works})
        # Few texts for each name, so that works are often made anew by what they had.
        self.texts = {name: [drawn_text(self.chance, style, names) for _ in range(3)] for name in self.works}
        self.watched = Watched(test)
        for name in self.works:
            if self.chance.random() < 0.75:
                self.watched.make(name, self.texts[name][0])

    def do(self):
        """A drawn deed; told for the message of a test that fails."""
        draw = self.chance.random()
        if draw < self.style.put:
            name, number = self.chance.choice(self.wells), self.chance.choice(NUMBERS)
            self.watched.put(name, number)
            return f"put {name} {number}"
        name = self.chance.choice(self.works)
        if draw < self.style.make:
            text = self.chance.choice(self.texts[name])
            self.watched.make(name, text)
            return f"make {name} {text}"
        if draw < self.style.make + 0.09:
            return self.go()
        self.watched.ask(name)
        return f"ask {name}"

    def go(self):
        """A point marked or gone back to, or something refused."""
        points = len(self.watched.points)
        draw = self.chance.random()
        if draw < 0.4 and points < 9:
            self.watched.mark()
            return "mark"
        if draw < 0.8 and points > 0:
            point = self.chance.randrange(points)
            self.watched.back(point)
            return f"back {point}"
        self.watched.refused(NoName, lambda hall: hall.ask("A"))
        self.watched.refused(NoNumber, lambda hall: hall.put(self.works[0], 31))
        self.watched.refused(NoRecipe, lambda hall: hall.make(self.works[0], f"{self.works[0]} +"))
        self.watched.refused(NoPoint, lambda hall: hall.back(points))
        return "refused"


class DrawnTest(unittest.TestCase):
    def assert_all_well(self, style, seeds):
        seen = {}
        for seed in range(seeds):
            drawn = DrawnHall(self, style, seed)
            deeds = []
            try:
                for _ in range(drawn.chance.randint(5, 40)):
                    deeds.append(drawn.do())
            except Exception:
                print(f"seed {seed}, behind {deeds}, texts {drawn.texts}")
                raise
            for what, often in drawn.watched.seen.items():
                seen[what] = seen.get(what, 0) + often
        for what, often in seen.items():
            self.assertGreater(often, 10, what)

    def test_mixed_halls(self):
        self.assert_all_well(Mixed(), 1500)

    def test_gated_halls(self):
        self.assert_all_well(Gated(), 1500)


if __name__ == "__main__":
    unittest.main()
