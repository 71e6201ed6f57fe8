"""Recipes as trees of pieces: how they are built, asked and told.

A recipe is a tuple, so that nobody who holds one can change it:
("number", number), ("name", name), ("gate", name, bound, piece),
("sum", pieces), ("least", pieces), ("most", pieces).
"""

GREATEST = 30

SIGNS = {"sum": "+", "least": "&", "most": "|"}

# For each kind the kinds that bind firmly enough to stand in it without brackets.
BARE = {
    "gate": ("number", "name", "gate"),
    "sum": ("number", "name", "gate"),
    "least": ("number", "name", "gate", "sum"),
    "most": ("number", "name", "gate", "sum", "least"),
}


def number_piece(number):
    """A piece that is a number."""
    return ("number", number)


def name_piece(name):
    """A piece that is a name."""
    return ("name", name)


def gate_piece(name, bound, piece):
    """A piece that is a gate."""
    return ("gate", name, bound, piece)


def joined_piece(kind, pieces):
    """A piece that is a sum, a least or a most, as its kind says."""
    return (kind, tuple(pieces))


def shown(recipe):
    """The text of a recipe."""
    kind = recipe[0]
    if kind == "number":
        return str(recipe[1])
    if kind == "name":
        return recipe[1]
    if kind == "gate":
        _, name, bound, piece = recipe
        return f"[{name} {bound}] {shown_within(kind, piece)}"
    parts = [shown_within(kind, piece) for piece in recipe[1]]
    sign = f" {SIGNS[kind]} "
    return sign.join(parts)


def shown_within(kind, piece):
    """The text of a piece as it stands in a piece of that kind."""
    text = shown(piece)
    if piece[0] in BARE[kind]:
        return text
    return f"({text})"


def answer_of(recipe, ask):
    """The answer of a recipe; ask tells the answer of a name."""
    kind = recipe[0]
    if kind == "number":
        return recipe[1]
    if kind == "name":
        return ask(recipe[1])
    if kind == "gate":
        return gate_answer(recipe, ask)
    if kind == "least":
        return least_answer(recipe[1], ask)
    answers = [answer_of(piece, ask) for piece in recipe[1]]
    if kind == "sum":
        return min(GREATEST, sum(answers))
    return max(answers)


def gate_answer(recipe, ask):
    """The answer of a gate."""
    _, name, bound, piece = recipe
    if ask(name) < bound:
        return 0
    return answer_of(piece, ask)


def least_answer(pieces, ask):
    """The least answer of the pieces, those behind the first 0 not asked."""
    answers = []
    for piece in pieces:
        answer = answer_of(piece, ask)
        answers.append(answer)
        if answer == 0:
            break
    return min(answers)


def names_of(recipe):
    """The names that stand in a recipe, each once, by where they stand first."""
    # A dict keeps the order in which its keys came.
    return list({name: True for name in names_standing(recipe)})


def names_standing(recipe):
    """The names that stand in a recipe, each as often as it stands."""
    kind = recipe[0]
    if kind == "number":
        return []
    if kind == "name":
        return [recipe[1]]
    if kind == "gate":
        _, name, _, piece = recipe
        return [name] + names_standing(piece)
    return [name for piece in recipe[1] for name in names_standing(piece)]
