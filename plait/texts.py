"""Lines of words: drawings, tables, colours and moves written, and read again."""

from plait.drawings import fault
from plait.errors import NoLine
from plait.shared import MOST_COLOURS, all_colours

MOST_FIGURES = 18
# How many whole numbers stand behind the first word of a move, ahead of what else it has.
NUMBERS_OF_MOVES = {"turn": 2, "curl": 3, "uncurl": 2, "lay": 6, "unlay": 4, "pass": 6}


def show_drawing(drawing):
    signs = dict(drawing[1])
    words = []
    for walk in drawing[0]:
        words.append("ring")
        words.extend([passage_word(passage, signs) for passage in walk])
    return " ".join(words)


def passage_word(passage, signs):
    if passage < 0:
        return "u" + str(-passage)
    return "o" + str(passage) + sign_word(signs[passage])


def sign_word(sign):
    return "+" if sign == 1 else "-"


def show_table(table):
    return " / ".join([show_colours(row) for row in table])


def show_colours(colours):
    return " ".join([str(colour) for colour in colours])


def show_move(move):
    count = NUMBERS_OF_MOVES[move[0]]
    words = [move[0]] + [str(number) for number in move[1:count + 1]]
    if move[0] == "curl":
        words.extend([move[4], sign_word(move[5])])
    if move[0] == "lay":
        words.extend(["crossed" if move[7] else "plain", sign_word(move[8])])
    return " ".join(words)


def words_of(line):
    # Two blanks, or one at an end, leave a word without signs, which is of no kind.
    return line.split(" ") if line != "" else []


def read_number(word):
    figures = word[1:] if word.startswith("-") else word
    if not figures.isdigit() or len(figures) > MOST_FIGURES:
        raise NoLine(f"{word!r} is no number")
    number = int(word)
    if str(number) != word:
        raise NoLine(f"{word!r} is not how a number is written")
    return number


def read_drawing(line):
    walks = []
    signs = {}
    for word in words_of(line):
        if word == "ring":
            walks.append([])
        elif walks == []:
            raise NoLine("the first word is not ring")
        elif word.startswith("o"):
            crossing = read_number(word[1:-1])
            signs[crossing] = read_sign(word[-1:])
            walks[-1].append(crossing)
        elif word.startswith("u"):
            walks[-1].append(-read_number(word[1:]))
        else:
            raise NoLine(f"{word!r} is no passage")
    # A crossing below 1, as in o-5+ or u-5, needs no look of its own: each one is a fault of the drawing.
    drawing = (walks, sorted(signs.items()))
    if fault(drawing) is not None:
        raise NoLine("this writes no drawing")
    return drawing


def read_sign(word):
    if word not in ("+", "-"):
        raise NoLine(f"{word!r} is no sign")
    return 1 if word == "+" else -1


def read_table(line):
    rows = [[]]
    for word in words_of(line):
        if word == "/":
            rows.append([])
        else:
            rows[-1].append(read_number(word))
    size = len(rows)
    if size > MOST_COLOURS or not all([len(row) == size and all_colours(row, size) for row in rows]):
        raise NoLine("this writes no table")
    return rows


def read_colours(line):
    return [read_number(word) for word in words_of(line)]


def read_move(line):
    words = words_of(line)
    if len(words) == 0 or words[0] not in NUMBERS_OF_MOVES:
        raise NoLine("this is no move")
    end = NUMBERS_OF_MOVES[words[0]] + 1
    ending = ends_of_move(words[0], words[end:])
    numbers = [read_number(word) for word in words[1:end]]
    if len(words) < end:
        raise NoLine("this move has words too few")
    return (words[0],) + tuple(numbers) + ending


def ends_of_move(form, words):
    if form == "curl":
        return (read_choice(words, "over", "under"), read_sign(words[1]))
    if form == "lay":
        return (read_choice(words, "crossed", "plain") == "crossed", read_sign(words[1]))
    if len(words) > 0:
        raise NoLine("this move has words too many")
    return ()


def read_choice(words, one, other):
    if len(words) != 2 or words[0] not in (one, other):
        raise NoLine(f"neither {one} nor {other}, and a sign")
    return words[0]
