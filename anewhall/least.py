"""The least answers that fit, reckoned without anything kept."""

from anewhall.pieces import answer_of
from anewhall.reading import read


def least(wells, works):
    """A dict from each work's name to its answer."""
    recipes = {name: read(works[name]) for name in works}
    stands = dict(wells)
    for name in works:
        stands[name] = 0
    while changed(recipes, stands):
        pass
    return {name: stands[name] for name in works}


def changed(recipes, stands):
    """Reckons each work once from what the others stand at; tells whether one changed."""
    def ask(name):
        # A name that is neither well nor work stands at 0.
        return stands.get(name, 0)

    before = dict(stands)
    for name in recipes:
        stands[name] = answer_of(recipes[name], ask)
    return stands != before
