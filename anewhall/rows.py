"""Rows of a book or a desk that put a well or make a work."""

from anewhall.errors import NoRow
from anewhall.reading import FIGURES


def do_row(hall, row):
    """Does in a hall what a row tells: `well NAME NUMBER` or `work NAME RECIPE`."""
    word, _, rest = row.partition(" ")
    name, blank, worth = rest.partition(" ")
    if blank == "":
        raise NoRow("a row without two blanks")
    if word == "well" and is_one_or_two_figures(worth):
        hall.put(name, int(worth))
    elif word == "work":
        hall.make(name, worth)
    else:
        raise NoRow("a row that neither puts a well nor makes a work")


def is_one_or_two_figures(text):
    """Whether a text is one figure or two, and nothing else."""
    return 1 <= len(text) <= 2 and all([sign in FIGURES for sign in text])
