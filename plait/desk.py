"""A desk that keeps drawings and tables by names, and answers lines with lines."""

from plait.answers import drawing_asked, sheet_lines, table_asked, told_lines
from plait.errors import NoLine, NoMove, NoPrime, NoUnit, TooBig, TooMuch
from plait.lines import NAMED, read_line
from plait.sheets import Sheet
from plait.tables import broken
from plait.texts import show_drawing, show_table

MOST_NAMES = 24
TABLE_WORDS = ("table", "still", "turns", "scaled", "dual", "side", "paired")
DRAWING_WORDS = ("draw", "flipped", "backward", "beside")
SHEET_WORDS = ("move", "undo", "redo", "moves", "down")


class Desk:
    def __init__(self):
        # A sheet or a table by each name, in the order in which they were laid.
        self.laid = {}

    def say(self, line):
        try:
            asked = read_line(line)
        except NoLine:
            return ["no line"]
        wrong = self.refusal(asked[1])
        if wrong is not None:
            return ["no " + wrong]
        return self.answer(asked[0], [self.found(kind, value) for kind, value in asked[1]])

    def refusal(self, parts):
        if any([self.is_misnamed(kind, value) for kind, value in parts]):
            return "name"
        if len(self.laid) >= MOST_NAMES and any([kind == "new" for kind, value in parts]):
            return "room"
        if any([self.is_of_other_kind(kind, value) for kind, value in parts]):
            return "kind"
        if any([kind == "TABLE" and broken(value) is not None for kind, value in parts]):
            return "broken"
        return None

    def is_misnamed(self, kind, value):
        if kind == "new":
            return value in self.laid
        return kind in NAMED and value not in self.laid

    def is_of_other_kind(self, kind, value):
        if kind in ("sheet", "drawing"):
            return not isinstance(self.laid[value], Sheet)
        return kind == "table" and isinstance(self.laid[value], Sheet)

    def found(self, kind, value):
        if kind in ("sheet", "table"):
            return self.laid[value]
        if kind == "drawing":
            return self.laid[value].drawing
        return value

    def answer(self, word, values):
        try:
            return self.done_or_told(word, values)
        except NoUnit:
            return ["no unit"]
        except TooBig:
            return ["no big"]
        except NoPrime:
            return ["no prime"]
        except TooMuch:
            return ["no much"]
        except NoMove:
            return ["no move"]

    def done_or_told(self, word, values):
        if word in TABLE_WORDS:
            self.laid[values[0]] = table_asked(word, values)
            return ["ok"]
        if word in DRAWING_WORDS:
            self.laid[values[0]] = Sheet(drawing_asked(word, values))
            return ["ok"]
        if word == "drop":
            self.laid.pop(values[0])
            return ["ok"]
        if word == "names":
            return list(self.laid)
        if word == "show":
            return [self.shown(values[0])]
        if word in SHEET_WORDS:
            return sheet_lines(word, values)
        return told_lines(word, values)

    def shown(self, name):
        kept = self.laid[name]
        return show_drawing(kept.drawing) if isinstance(kept, Sheet) else show_table(kept)
