"""The lines that a desk takes: their words, each of its kind."""

from plait.errors import NoLine
from plait.texts import read_drawing, read_move, read_number, read_table, words_of

MOST_LETTERS = 8
# By the first word of a line: the kinds of what stands behind it. A sheet is a drawing with its moves.
FORMS = {
    "draw": ("new", "DRAWING"),
    "table": ("new", "TABLE"),
    "still": ("new", "size"),
    "turns": ("new", "size"),
    "scaled": ("new", "size", "number"),
    "dual": ("new", "table"),
    "side": ("new", "table", "table"),
    "paired": ("new", "table", "table"),
    "flipped": ("new", "drawing"),
    "backward": ("new", "drawing"),
    "beside": ("new", "drawing", "drawing"),
    "drop": ("name",),
    "move": ("sheet", "MOVE"),
    "undo": ("sheet",),
    "redo": ("sheet",),
    "names": (),
    "show": ("name",),
    "moves": ("sheet",),
    "down": ("sheet",),
    "arcs": ("drawing",),
    "many": ("drawing", "table"),
    "colours": ("drawing", "table"),
    "straight": ("drawing", "number", "number"),
    "part": ("drawing", "drawing", "size"),
    "like": ("table", "table"),
}
WRITTEN_OUT = ("DRAWING", "TABLE", "MOVE")
NAMED = ("new", "name", "sheet", "drawing", "table")


def read_line(line):
    words = words_of(line)
    if len(words) == 0 or words[0] not in FORMS or "" in words:
        raise NoLine("no line that a desk takes")
    form = FORMS[words[0]]
    behind = words_by_form(form, words[1:])
    if len(behind) != len(form):
        raise NoLine("a word too many or too few")
    return (words[0], [(kind, read_kind(kind, word)) for kind, word in zip(form, behind)])


def words_by_form(form, words):
    if len(form) == 0 or form[-1] not in WRITTEN_OUT:
        return words
    # What is written out takes all words that are left, perhaps none.
    ahead = len(form) - 1
    return words[:ahead] + [" ".join(words[ahead:])]


def read_kind(kind, word):
    if kind in NAMED:
        return read_name(word)
    if kind == "size":
        return read_size(word)
    if kind == "number":
        return read_number(word)
    if kind == "DRAWING":
        return read_drawing(word)
    if kind == "TABLE":
        return read_table(word)
    return read_move(word)


def read_name(word):
    if not 1 <= len(word) <= MOST_LETTERS or not all(["a" <= sign <= "z" for sign in word]):
        raise NoLine(f"{word!r} is no name")
    return word


def read_size(word):
    size = read_number(word)
    if size < 1:
        raise NoLine(f"{size} is no size")
    return size
