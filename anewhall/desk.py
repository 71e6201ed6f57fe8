"""A desk, at which a hall is told what to do in rows."""

from anewhall.errors import Full, NoName, NoNumber, NoPoint, NoRecipe, NoRow
from anewhall.hall import Hall
from anewhall.rows import do_row, is_one_or_two_figures


class Desk:
    """A hall, and the rows that are said to it."""

    def __init__(self):
        self.served = Hall()

    def hall(self):
        """The hall of the desk."""
        return self.served

    def said(self, row):
        """Does a row; its answer, or that of its refusal."""
        try:
            return self.answer_to(row)
        except NoName:
            return "no name"
        except NoNumber:
            return "no number"
        except NoRecipe:
            return "no recipe"
        except Full:
            return "full"
        except NoPoint:
            return "no point"
        except NoRow:
            return "no row"

    def answer_to(self, row):
        """Does a row; its answer, unless it is refused."""
        word, blank, rest = row.partition(" ")
        if row == "runs":
            return self.runs_taken()
        if row == "mark":
            return str(self.served.mark())
        if word == "ask" and blank == " ":
            return str(self.served.ask(rest))
        if word == "back" and is_one_or_two_figures(rest):
            self.served.back(int(rest))
        else:
            do_row(self.served, row)
        return "done"

    def runs_taken(self):
        """The names of the runs not taken yet, or a dash for none."""
        names = [name for name, _, _ in self.served.runs()]
        if names == []:
            return "-"
        return " ".join(names)
