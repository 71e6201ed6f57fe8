"""Halls told as rows, and opened from them."""

from anewhall.hall import Hall
from anewhall.rows import do_row


def told(hall):
    """The rows of a hall, in the order of names."""
    rows = {}
    for name, number in hall.wells().items():
        rows[name] = f"well {name} {number}"
    for name, text in hall.works().items():
        rows[name] = f"work {name} {text}"
    return [rows[name] for name in sorted(rows)]


def opened(rows):
    """A new hall in which the rows are done one after another."""
    hall = Hall()
    for row in rows:
        do_row(hall, row)
    return hall
