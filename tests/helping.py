"""What several test files need."""

from anewhall.errors import Full, HallError, NoName, NoNumber, NoPoint, NoRecipe, NoRow
from anewhall.pieces import answer_of, shown
from anewhall.reading import read

OTHER_REFUSALS = (NoName, NoNumber, Full, NoPoint, NoRow)


def told(text):
    """How the recipe of a text is told."""
    return shown(read(text))


def asked(text, answers):
    """The answer of a text's recipe, and the names it asked, in order.

    answers is a dict from each name to its answer; a name that may not be
    asked is left out of it, so that asking it is a KeyError.
    """
    names = []

    def ask(name):
        names.append(name)
        return answers[name]

    answer = answer_of(read(text), ask)
    return answer, names


def asked_in_turn(recipe, answers):
    """Likewise for a recipe, each asking answered by the next one of a list."""
    names = []

    def ask(name):
        names.append(name)
        return answers[len(names) - 1]

    answer = answer_of(recipe, ask)
    return answer, names


def assert_no_recipe(test, deed, why):
    """The deed is refused with NoRecipe, and with no other refusal."""
    with test.subTest(refused=why):
        with test.assertRaises(NoRecipe) as caught:
            deed()
        test.assertIsInstance(caught.exception, HallError)
        test.assertIsInstance(caught.exception, ValueError)
        test.assertNotIsInstance(caught.exception, OTHER_REFUSALS)
