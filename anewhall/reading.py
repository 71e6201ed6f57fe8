"""How the text of a recipe is read."""

from anewhall.errors import NoRecipe
from anewhall.pieces import GREATEST, SIGNS, gate_piece, joined_piece, name_piece, number_piece

LETTERS = "abcdefghijklmnopqrstuvwxyz"
FIGURES = "0123456789"
OTHER_WORDS = "+&|()[]"

LONGEST_NAME = 6
MOST_PIECES = 8
MOST_WORDS = 40
MOST_SIGNS = 400
DEEPEST = 2

# From the kind that binds loosest to the one that binds firmest.
LEVELS = ("most", "least", "sum")


class Words:
    """The words of a text, taken one after another."""

    def __init__(self, words):
        self.words = words
        self.at = 0

    def ahead(self):
        """The next word, left where it is; an empty text behind the last one."""
        if self.at < len(self.words):
            return self.words[self.at]
        return ""

    def taken(self):
        """The next word, taken."""
        word = self.ahead()
        self.at += 1
        return word

    def expect(self, word):
        """Takes the next word, which must be the one told."""
        if self.taken() != word:
            raise NoRecipe(f"another word than {word} where it must stand")


def read(text):
    """The recipe that a text writes."""
    if len(text) > MOST_SIGNS:
        raise NoRecipe("too many signs")
    words = words_of(text)
    if len(words) > MOST_WORDS:
        raise NoRecipe("too many words")
    reader = Words(words)
    recipe = read_level(reader, 0, 0)
    if reader.ahead() != "":
        raise NoRecipe("a word too many behind the recipe")
    return recipe


def words_of(text):
    """The words of a text, in their order."""
    words = []
    before = "blank"
    for sign in text:
        kind = kind_of(sign)
        if kind == before and kind in ("letter", "figure"):
            words[-1] += sign
        elif kind != "blank":
            words.append(sign)
        before = kind
    return words


def kind_of(sign):
    """What a sign is for the parting of a text into words."""
    if sign in LETTERS:
        return "letter"
    if sign in FIGURES:
        return "figure"
    if sign in OTHER_WORDS:
        return "other"
    if sign == " ":
        return "blank"
    raise NoRecipe("a sign that stands in no recipe")


def read_level(reader, level, deep):
    """Reads a piece that binds as firmly as the level's kind, or firmer."""
    if level == len(LEVELS):
        return read_piece(reader, deep)
    kind = LEVELS[level]
    pieces = [read_level(reader, level + 1, deep)]
    while reader.ahead() == SIGNS[kind]:
        reader.taken()
        pieces.append(read_level(reader, level + 1, deep))
    if len(pieces) > MOST_PIECES:
        raise NoRecipe("too many pieces with one sign between them")
    if len(pieces) == 1:
        return pieces[0]
    return joined_piece(kind, pieces)


def read_piece(reader, deep):
    """Reads a number, a name, a gate, or what stands in brackets."""
    if deep > DEEPEST:
        raise NoRecipe("a piece that lies too deep")
    word = reader.taken()
    if word == "(":
        piece = read_level(reader, 0, deep + 1)
        reader.expect(")")
        return piece
    if word == "[":
        return read_gate(reader, deep)
    if is_name(word):
        return name_piece(word)
    return number_piece(number_of(word, 0))


def read_gate(reader, deep):
    """Reads a gate from its name on."""
    name = reader.taken()
    if not is_name(name):
        raise NoRecipe("a gate without a name")
    bound = number_of(reader.taken(), 1)
    reader.expect("]")
    return gate_piece(name, bound, read_piece(reader, deep + 1))


def is_name(text):
    """Whether a text is a name."""
    if not 1 <= len(text) <= LONGEST_NAME:
        return False
    return all([sign in LETTERS for sign in text])


def number_of(word, lowest):
    """The number from the lowest one on that a word writes."""
    # Compared with how each number is written, a 0 ahead of a figure is refused too.
    for number in range(lowest, GREATEST + 1):
        if word == str(number):
            return number
    raise NoRecipe("no number where one must stand")
