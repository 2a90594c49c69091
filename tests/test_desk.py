"""Points 44, 45, 46, and 2, 3, 4, 5 for plait/desk.py."""

import itertools
import random
import string
import unittest

from plait.arcs import arc_count
from plait.chains import led, led_along
from plait.colours import colourings, many
from plait.desk import Desk
from plait.joins import paired, side
from plait.marks import parted
from plait.shapes import backward, beside, flipped
from plait.simple import simpler
from plait.straight import solved
from plait.tables import dual, scaled, still, turns
from plait.texts import read_drawing, read_move, show_colours, show_drawing, show_move, show_table
from tests.helpers import HOPF, TREFOIL, PlaitTest, chain_from, legal_moves, numbered, plain_legal

TREFOIL_LINE = "ring o1+ u2 o3+ u1 o2+ u3"
HOPF_LINE = "ring o1- u2 ring o2- u1"
CURLED_LINE = "ring o1+ u1 o2- u2 ring u3 o3+"
OK = ["ok"]
# The form of each line: names of drawings d and e, of tables t and u, x a new name, z any name.
FORMS = {
    "draw": ["x", "DRAWING"], "table": ["x", "TABLE"], "still": ["x", "SIZE"], "turns": ["x", "SIZE"],
    "scaled": ["x", "SIZE", "FACTOR"], "dual": ["x", "t"], "side": ["x", "t", "u"], "paired": ["x", "t", "u"],
    "flipped": ["x", "d"], "backward": ["x", "d"], "beside": ["x", "d", "e"], "drop": ["z"], "move": ["d", "MOVE"],
    "undo": ["d"], "redo": ["d"], "names": [], "show": ["z"], "moves": ["d"], "down": ["d"], "arcs": ["d"],
    "many": ["d", "t"], "colours": ["d", "t"], "straight": ["d", "PRIME", "FACTOR"], "part": ["d", "e", "SIZE"],
    "like": ["t", "u"],
}
WRITTEN = {
    "DRAWING": TREFOIL_LINE, "TABLE": "0 2 1 / 2 1 0 / 1 0 2", "SIZE": "2", "FACTOR": "1", "PRIME": "3",
    "MOVE": "curl 0 2 7 over +",
}


def name_of(number):
    return string.ascii_lowercase[number // 26] + string.ascii_lowercase[number % 26]


def good_line(word, names):
    """A line with this first word that the desk takes, with these names for d, e, t, u, x and z."""
    return " ".join([word] + [names.get(part) or WRITTEN[part] for part in FORMS[word]])


def told_state(desk):
    """All that a desk tells of what it keeps, as far as asking shows it."""
    told = [desk.say("names")]
    for name in desk.say("names"):
        told += [desk.say("show " + name), desk.say("moves " + name)]
    return told


class DeskTest(PlaitTest):
    def desk(self, *lines):
        desk = Desk()
        for line in lines:
            self.assertEqual(desk.say(line), OK, line)
        return desk

    def two_each(self):
        """A desk with the drawings d and e and the tables t and u, d with moves that stand and one taken back."""
        return self.desk(
            "draw d " + TREFOIL_LINE, "draw e ring", "turns t 3", "still u 2", "move d curl 0 0 8 over -",
            "move d turn 0 1", "move d turn 0 2", "undo d",
        )

    def assert_says(self, desk, line, *lines):
        told = desk.say(line)
        self.assertIs(type(told), list)
        self.assertEqual(told, list(lines), line)

    def assert_no(self, desk, line, word):
        """Refused with this word, and nothing is changed."""
        before = told_state(desk)
        self.assert_says(desk, line, "no " + word)
        self.assert_says(desk, line, "no " + word)
        self.assertEqual(told_state(desk), before)


class Lines(DeskTest):
    def test_a_new_desk_is_bare(self):
        self.assert_says(Desk(), "names")
        for word in FORMS:
            if any(part in ("d", "e", "t", "u", "z") for part in FORMS[word]):
                names = {"x": "x", "d": "d", "e": "e", "t": "t", "u": "u", "z": "z"}
                self.assert_no(Desk(), good_line(word, names), "name")

    def test_each_form_is_taken(self):
        names = {"x": "x", "d": "d", "e": "e", "t": "t", "u": "u", "z": "d"}
        for word in FORMS:
            told = self.two_each().say(good_line(word, names))
            self.assertFalse(told and told[0].startswith("no "), (word, told))
            if word not in ("names", "show", "moves", "down", "arcs", "many", "colours", "straight", "part", "like"):
                self.assertEqual(told, OK)

    def test_draw_and_table(self):
        desk = self.desk(
            "draw a " + TREFOIL_LINE, "draw b", "draw c ring", "table t 0 2 1 / 2 1 0 / 1 0 2", "table u 0",
        )
        self.assert_says(desk, "show a", TREFOIL_LINE)
        self.assert_says(desk, "show b", "")
        self.assert_says(desk, "show c", "ring")
        self.assert_says(desk, "show t", "0 2 1 / 2 1 0 / 1 0 2")
        self.assert_says(desk, "show u", "0")
        self.assert_says(desk, "names", "a", "b", "c", "t", "u")
        for name in "abc":
            self.assert_says(desk, "moves " + name)

    def test_tables_that_are_made(self):
        desk = self.desk(
            "still a 3", "turns b 5", "scaled c 5 2", "scaled d 5 -3", "dual e c", "side f a b", "paired g b a",
            "side h c c", "turns i 24", "still j 1", "scaled k 1 0", "scaled l 7 999999999999999997",
        )
        expected = {
            "a": still(3), "b": turns(5), "c": scaled(5, 2), "d": scaled(5, -3), "e": dual(scaled(5, 2)),
            "f": side(still(3), turns(5)), "g": paired(turns(5), still(3)), "h": side(scaled(5, 2), scaled(5, 2)),
            "i": turns(24), "j": [[0]], "k": [[0]], "l": scaled(7, 10 ** 18 - 3),
        }
        for name, table in expected.items():
            self.assert_says(desk, "show " + name, show_table(table))

    def test_drawings_that_are_made(self):
        desk = self.desk("draw a " + TREFOIL_LINE, "draw b " + HOPF_LINE)
        for line in ("flipped c a", "backward d a", "beside e a b", "beside f b b", "flipped g b", "backward h b"):
            self.assert_says(desk, line, "ok")
        expected = {
            "c": flipped(TREFOIL), "d": backward(TREFOIL), "e": beside(TREFOIL, HOPF), "f": beside(HOPF, HOPF),
            "g": flipped(HOPF), "h": backward(HOPF),
        }
        for name, drawing in expected.items():
            self.assert_says(desk, "show " + name, show_drawing(drawing))
            self.assert_says(desk, "moves " + name)

    def test_what_is_asked(self):
        desk = self.desk(
            "draw a " + TREFOIL_LINE, "draw b " + HOPF_LINE, "draw c", "draw d ring", "turns t 3", "still u 2",
        )
        drawings = {"a": TREFOIL, "b": HOPF, "c": ([], []), "d": ([[]], [])}
        tables = {"t": turns(3), "u": still(2)}
        for name, drawing in drawings.items():
            self.assert_says(desk, "arcs " + name, str(arc_count(drawing)))
            for prime, factor in ((3, -1), (2, 1), (7, 3), (99991, -(10 ** 17))):
                frees = solved(drawing, prime, factor)[0]
                self.assert_says(desk, f"straight {name} {prime} {factor}", str(len(frees)))
            for called, table in tables.items():
                self.assert_says(desk, f"many {name} {called}", str(many(drawing, table)))
                found = [show_colours(colours) for colours in colourings(drawing, table)]
                self.assert_says(desk, f"colours {name} {called}", *found)
        self.assert_says(desk, "colours c t", "")
        self.assert_says(desk, "colours d u", "0", "1")
        self.assert_says(desk, "straight a 3 2", "2")

    def test_part(self):
        drawings = {"a": TREFOIL, "b": HOPF, "c": ([], []), "d": ([[]], [])}
        desk = self.desk(*[f"draw {name} {show_drawing(drawing)}".strip() for name, drawing in drawings.items()])
        for (one, first), (two, second) in itertools.product(drawings.items(), repeat=2):
            for size in (1, 2, 3, 4):
                found = parted(first, second, size)
                lines = ["alike"] if found is None else [show_table(found[0]), f"{found[1]} {found[2]}"]
                self.assert_says(desk, f"part {one} {two} {size}", *lines)
        self.assert_says(desk, "part a d 3", "0 2 1 / 2 1 0 / 1 0 2", "9 3")
        self.assert_says(desk, "part d a 3", "0 2 1 / 2 1 0 / 1 0 2", "3 9")
        self.assert_says(desk, "part a d 2", "alike")

    def test_like(self):
        desk = self.desk(
            "turns a 3", "still b 3", "scaled c 5 2", "scaled d 5 3", "table e 0 0 0 / 2 1 1 / 1 2 2",
            "table f 0 2 0 / 1 1 1 / 2 0 2", "table g 0 0 1 / 1 1 0 / 2 2 2",
        )
        self.assert_says(desk, "like a a", "0 1 2")
        self.assert_says(desk, "like a b", "unlike")
        self.assert_says(desk, "like c d", "unlike")
        self.assert_says(desk, "like c a", "unlike")
        self.assert_says(desk, "like e f", "1 0 2")
        self.assert_says(desk, "like e g", "2 0 1")
        self.assert_says(desk, "like g e", "1 2 0")

    def test_names_in_their_order(self):
        desk = self.desk("draw b", "still a 2", "draw c ring")
        self.assert_says(desk, "names", "b", "a", "c")
        self.assert_says(desk, "drop b", "ok")
        self.assert_says(desk, "names", "a", "c")
        self.assert_says(desk, "turns b 3", "ok")
        self.assert_says(desk, "names", "a", "c", "b")
        for name in "acb":
            self.assert_says(desk, "drop " + name, "ok")
        self.assert_says(desk, "names")

    def test_names_may_be_first_words(self):
        desk = self.desk("draw draw ring", "draw ring ring", "still names 2", "turns table 3", "dual dual table")
        self.assert_says(desk, "names", "draw", "ring", "names", "table", "dual")
        self.assert_says(desk, "show ring", "ring")
        self.assert_says(desk, "beside move draw ring", "ok")
        self.assert_says(desk, "move move turn 1 5", "ok")


class Moves(DeskTest):
    def test_a_move_is_done_and_stands(self):
        desk = self.desk("draw a " + TREFOIL_LINE, "move a curl 0 2 7 over +", "move a lay 0 0 0 4 8 9 crossed -")
        moves = [("curl", 0, 2, 7, "over", 1), ("lay", 0, 0, 0, 4, 8, 9, True, -1)]
        self.assert_says(desk, "show a", show_drawing(led(TREFOIL, moves)))
        self.assert_says(desk, "moves a", "curl 0 2 7 over +", "lay 0 0 0 4 8 9 crossed -")

    def test_moves_of_each_form(self):
        passing = ([[1, 2], [-1, 3], [-2, -3]], [(1, 1), (2, 1), (3, 1)])
        for drawing in (TREFOIL, ([[1, 2, -2], [-1], []], [(1, 1), (2, -1)]), passing):
            for move in legal_moves(drawing)[::5] + [move for move in legal_moves(drawing) if move[0] == "pass"]:
                desk = self.desk("draw a " + show_drawing(drawing), "move a " + show_move(move))
                self.assert_says(desk, "show a", show_drawing(led(drawing, [move])))
                self.assert_says(desk, "moves a", show_move(move))
                self.assert_says(desk, "undo a", "ok")
                self.assert_says(desk, "show a", show_drawing(drawing))

    def test_undo_and_redo(self):
        desk = self.desk("draw a " + TREFOIL_LINE)
        lines = ["curl 0 2 7 over +", "turn 0 3", "curl 0 0 9 under -", "uncurl 0 0", "turn 0 -3"]
        shown = [desk.say("show a")]
        for line in lines:
            self.assert_says(desk, "move a " + line, "ok")
            shown.append(desk.say("show a"))
        for count in range(4, -1, -1):
            self.assert_says(desk, "undo a", "ok")
            self.assert_says(desk, "moves a", *lines[:count])
            self.assertEqual(desk.say("show a"), shown[count])
        self.assert_no(desk, "undo a", "undo")
        for count in range(1, 6):
            self.assert_says(desk, "redo a", "ok")
            self.assert_says(desk, "moves a", *lines[:count])
            self.assertEqual(desk.say("show a"), shown[count])
        self.assert_no(desk, "redo a", "redo")

    def test_a_move_forgets_those_taken_back(self):
        # One that changes nothing, too.
        for line in ("turn 0 0", "turn 0 6", "turn 0 1", "curl 0 0 9 under -"):
            desk = self.desk("draw a " + TREFOIL_LINE, "move a curl 0 2 7 over +", "move a turn 0 1")
            for asked in ("undo a", "undo a", "move a " + line):
                self.assert_says(desk, asked, "ok")
            self.assert_no(desk, "redo a", "redo")
            self.assert_says(desk, "moves a", line)
            self.assert_says(desk, "undo a", "ok")
            self.assert_says(desk, "show a", TREFOIL_LINE)
            self.assert_says(desk, "redo a", "ok")
            self.assert_says(desk, "moves a", line)

    def test_redo_forgets_nothing(self):
        desk = self.desk("draw a ring", "move a turn 0 1", "move a turn 0 2", "move a turn 0 3")
        for line in ("undo a", "undo a", "undo a", "redo a", "undo a", "redo a", "redo a", "redo a"):
            self.assert_says(desk, line, "ok")
        self.assert_says(desk, "moves a", "turn 0 1", "turn 0 2", "turn 0 3")
        self.assert_no(desk, "redo a", "redo")

    def test_what_is_refused_forgets_nothing(self):
        desk = self.desk("draw a " + TREFOIL_LINE, "move a curl 0 2 7 over +", "move a turn 0 1", "undo a", "undo a")
        for line, word in (
            ("move a uncurl 0 0", "move"), ("move a turn 1 0", "move"), ("move a turn 0", "line"), ("undo a", "undo"),
            ("move b turn 0 0", "name"), ("draw a ring", "name"), ("drop b", "name"), ("many a a", "kind"),
        ):
            self.assert_no(desk, line, word)
        self.assert_says(desk, "show a", TREFOIL_LINE)
        self.assert_says(desk, "redo a", "ok")
        self.assert_says(desk, "redo a", "ok")
        self.assert_says(desk, "moves a", "curl 0 2 7 over +", "turn 0 1")

    def test_what_only_asks_forgets_nothing(self):
        desk = self.desk("draw a " + TREFOIL_LINE, "turns t 3", "move a curl 0 2 7 over +", "undo a")
        for line in ("show a", "moves a", "names", "arcs a", "many a t", "colours a t", "straight a 3 2", "part a a 2"):
            desk.say(line)
        for line in ("flipped b a", "backward c a", "beside d a a", "drop b"):
            self.assert_says(desk, line, "ok")
        self.assert_says(desk, "redo a", "ok")

    def test_down(self):
        desk = self.desk("draw a " + CURLED_LINE)
        self.assert_says(desk, "down a", "uncurl 0 0", "uncurl 0 0", "uncurl 1 0")
        self.assert_says(desk, "show a", "ring ring")
        self.assert_says(desk, "moves a", "uncurl 0 0", "uncurl 0 0", "uncurl 1 0")
        self.assert_says(desk, "down a")
        # Each move of a down stands by itself.
        self.assert_says(desk, "undo a", "ok")
        self.assert_says(desk, "show a", "ring ring u3 o3+")
        self.assert_says(desk, "undo a", "ok")
        self.assert_says(desk, "show a", "ring o2- u2 ring u3 o3+")
        self.assert_says(desk, "redo a", "ok")
        self.assert_says(desk, "moves a", "uncurl 0 0", "uncurl 0 0")

    def test_down_is_simpler(self):
        for seed in range(40):
            drawing = numbered(2 + seed % 5, 1 + seed % 2, seed)
            desk = self.desk("draw a " + show_drawing(drawing))
            left, moves = simpler(drawing)
            self.assert_says(desk, "down a", *[show_move(move) for move in moves])
            self.assert_says(desk, "show a", show_drawing(left))

    def test_down_with_and_without_moves(self):
        desk = self.desk("draw a " + CURLED_LINE, "move a turn 0 1", "undo a")
        self.assert_says(desk, "down a", "uncurl 0 0", "uncurl 0 0", "uncurl 1 0")
        self.assert_no(desk, "redo a", "redo")
        desk = self.desk("draw a " + TREFOIL_LINE, "move a turn 0 1", "undo a")
        self.assert_says(desk, "down a")
        self.assert_says(desk, "redo a", "ok")
        self.assert_says(desk, "moves a", "turn 0 1")

    def test_each_drawing_has_its_own_moves(self):
        desk = self.desk("draw a ring", "draw b ring", "move a turn 0 1", "move b turn 0 2", "undo a")
        self.assert_says(desk, "moves a")
        self.assert_says(desk, "moves b", "turn 0 2")
        self.assert_no(desk, "redo b", "redo")
        self.assert_says(desk, "redo a", "ok")

    def test_laid_anew_behind_a_drop(self):
        desk = self.desk("draw a ring", "move a curl 0 0 3 over +", "move a turn 0 1", "undo a", "drop a")
        self.assert_no(desk, "show a", "name")
        self.assert_says(desk, "draw a " + TREFOIL_LINE, "ok")
        self.assert_says(desk, "moves a")
        self.assert_no(desk, "undo a", "undo")
        self.assert_no(desk, "redo a", "redo")
        self.assert_says(desk, "show a", TREFOIL_LINE)
        self.assert_says(desk, "drop a", "ok")
        self.assert_says(desk, "turns a 3", "ok")
        self.assert_no(desk, "undo a", "kind")

    def test_made_of_others_as_they_are_now(self):
        desk = self.desk("draw a ring", "move a curl 0 0 3 over +", "flipped b a", "beside c a a")
        self.assert_says(desk, "undo a", "ok")
        self.assert_says(desk, "flipped d a", "ok")
        self.assert_says(desk, "redo a", "ok")
        self.assert_says(desk, "move a turn 0 1", "ok")
        self.assert_says(desk, "show b", "ring o3- u3")
        self.assert_says(desk, "show c", "ring o3+ u3 ring o6+ u6")
        self.assert_says(desk, "show d", "ring")
        self.assert_says(desk, "backward e a", "ok")
        self.assert_says(desk, "show e", "ring o3+ u3")
        self.assert_says(desk, "move b uncurl 0 0", "ok")
        self.assert_says(desk, "drop a", "ok")
        self.assert_says(desk, "show b", "ring")
        self.assert_says(desk, "show c", "ring o3+ u3 ring o6+ u6")
        self.assert_says(desk, "moves c")
        desk = self.desk("turns t 3", "dual u t", "side v t u", "drop t", "still t 2")
        self.assert_says(desk, "show u", "0 2 1 / 2 1 0 / 1 0 2")

    def test_what_is_asked_is_of_the_drawing_as_it_is_now(self):
        desk = self.desk("draw a " + TREFOIL_LINE, "turns t 3")
        self.assert_says(desk, "arcs a", "3")
        self.assert_says(desk, "move a curl 0 2 7 over +", "ok")
        self.assert_says(desk, "arcs a", "4")
        self.assert_says(desk, "many a t", "9")
        self.assertEqual(len(desk.say("colours a t")[0].split(" ")), 4)
        self.assert_says(desk, "undo a", "ok")
        self.assert_says(desk, "arcs a", "3")


class Refusals(DeskTest):
    def test_names(self):
        for name in ("a", "z", "abcdefgh", "zzzzzzzz", "aa", "ring", "o"):
            self.assert_says(self.desk(f"draw {name} ring"), "names", name)
        wrong = ["", "abcdefghi", "aaaaaaaaaaaaaaaaaaaa", "A", "aB", "a1", "1", "a-b", "a_b", "-", "+", "/", "{", "`"]
        for name in wrong:
            for word in ("draw", "flipped", "drop", "show", "still", "table"):
                rest = {"draw": " ring", "flipped": " d", "still": " 2", "table": " 0"}.get(word, "")
                self.assert_no(self.two_each(), f"{word} {name}{rest}", "line")
        for name in ("a\n", "\na", "a\nb", "\n"):
            self.assert_no(Desk(), f"draw {name} ring", "line")
            self.assert_no(Desk(), f"draw {name}", "line")

    def test_first_words(self):
        for line in (
            "", " ", "  ", "\n", "name", "Names", "names names", "names a", "names ", " names", "names\n", "x",
            "draws a", "0", "ok", "no line", "ring", "turn d 1", "curl d 0 0 9 over +", "parted d e 2", "likes t u",
            "colour d t", "DRAW a", "draw", "table", "move", "undo", "show", "say names", "names\nnames", "~", "help",
        ):
            self.assert_no(self.two_each(), line, "line")

    def test_a_word_too_many_and_too_few(self):
        names = {"x": "x", "d": "d", "e": "e", "t": "t", "u": "u", "z": "d"}
        for word in FORMS:
            line = good_line(word, names)
            words = line.split(" ")
            desk = self.two_each()
            for more in ("a", "0", "ring o9+", "/"):
                self.assert_no(desk, f"{line} {more}", "line")
            for end in range(len(words)):
                fewer = " ".join(words[:end])
                # These are lines, too: of the drawing without walks, of one ring, and of the table of one colour.
                if fewer not in ("draw x", "draw x ring", "table x 0"):
                    self.assert_no(desk, fewer, "line")

    def test_blanks_and_line_feeds(self):
        names = {"x": "x", "d": "d", "e": "e", "t": "t", "u": "u", "z": "d"}
        for word in FORMS:
            line = good_line(word, names)
            desk = self.two_each()
            wrong = [" " + line, line + " ", line + "\n", "\n" + line, line + "  ", line + " \n"]
            for at, sign in enumerate(line):
                if sign == " ":
                    wrong += [line[:at] + more + line[at:] for more in (" ", "\n", " \n")]
                    wrong.append(line[:at] + "\n" + line[at + 1:])
            for each in wrong:
                self.assert_no(desk, each, "line")
        self.assert_no(Desk(), "draw a ", "line")
        self.assert_no(Desk(), "draw  a", "line")

    def test_numbers_that_are_none(self):
        desk = self.two_each()
        for word in ("0", "-1", "-24", "+2", "02", "-0", "x", "2.0", "1" + "0" * 18, "two", "2\n", "-"):
            for line in (f"still x {word}", f"turns x {word}", f"scaled x {word} 1", f"part d e {word}"):
                self.assert_no(desk, line, "line")
        for word in ("+2", "02", "-0", "x", "2.0", "1" + "0" * 18, "-", "--2", "-" + "1" * 19):
            for line in (f"scaled x 5 {word}", f"straight d {word} 1", f"straight d 3 {word}"):
                self.assert_no(desk, line, "line")

    def test_what_is_not_read(self):
        desk = self.two_each()
        drawings = ["o1+ u1", "ring o1+", "ring o1+ u1 u1", "ring o1+ u1 o1- u1", "ring x", "rings", "0"]
        for rest in drawings + ["ring o01+ u01"]:
            self.assert_no(desk, "draw x " + rest, "line")
        self.assert_no(desk, "draw x " + " ".join(["ring"] * 13), "line")
        self.assert_no(desk, "draw x " + show_drawing(numbered(41, 1)), "line")
        self.assert_says(desk, "draw y " + " ".join(["ring"] * 12), "ok")
        for rest in ("0 0", "0 /", "1", "0 1 / 0", "0 1 / 0 2", "x", "ring", show_table([[0] * 25] * 25)):
            self.assert_no(desk, "table x " + rest, "line")
        moves = ["turn", "turn 0", "turn 0 x", "turn 0 1 2", "curl 0 2 7 over", "curl 0 2 7 mid +", "fly 0 0"]
        for rest in moves + ["lay 0 0 0 0 8 9 +", "lay 0 0 0 0 8 9 over +"]:
            self.assert_no(desk, "move d " + rest, "line")

    def test_a_name_that_stands_for_nothing(self):
        desk = self.two_each()
        for word, form in FORMS.items():
            for at, part in enumerate(form):
                if part in ("d", "e", "t", "u", "z"):
                    words = good_line(word, {"x": "x", "d": "d", "e": "e", "t": "t", "u": "u", "z": "d"}).split(" ")
                    words[at + 1] = "nothing"
                    self.assert_no(desk, " ".join(words), "name")

    def test_a_new_name_that_stands_already(self):
        for word, form in FORMS.items():
            if "x" in form:
                for taken in ("d", "e", "t", "u"):
                    names = {"x": taken, "d": "d", "e": "e", "t": "t", "u": "u"}
                    self.assert_no(self.two_each(), good_line(word, names), "name")

    def test_kind(self):
        desk = self.two_each()
        for word, form in FORMS.items():
            for part in form:
                if part in ("d", "e", "t", "u"):
                    names = {"x": "x", "d": "d", "e": "e", "t": "t", "u": "u", "z": "d"}
                    names[part] = "t" if part in ("d", "e") else "d"
                    self.assert_no(desk, good_line(word, names), "kind")

    def full_desk(self, count):
        more = [f"still {name_of(each)} 1" for each in range(count - 2)]
        return self.desk("draw d " + TREFOIL_LINE, "turns t 3", *more)

    def test_the_24th_and_the_25th_name(self):
        names = {"x": "new", "d": "d", "e": "d", "t": "t", "u": "t", "z": "d"}
        for word, form in FORMS.items():
            if "x" in form:
                desk = self.full_desk(23)
                self.assert_says(desk, good_line(word, names), "ok")
                self.assertEqual(len(desk.say("names")), 24)
                self.assert_no(desk, good_line(word, {**names, "x": "newer"}), "room")
                self.assert_says(desk, "drop new", "ok")
                self.assert_says(desk, good_line(word, {**names, "x": "newer"}), "ok")
            else:
                self.assertNotEqual(self.full_desk(24).say(good_line(word, names)), ["no room"])

    def test_broken(self):
        desk = self.two_each()
        for table in ("1 0 / 0 1", "0 0 / 0 1", "0 1 / 1 0", "0 1 0 / 0 1 1 / 2 2 2", "0 0 0 / 1 1 2 / 2 2 1"):
            self.assert_no(desk, "table x " + table, "broken")
        self.assert_says(desk, "table x 0 0 0 / 2 1 1 / 1 2 2", "ok")

    def test_unit_and_big(self):
        desk = self.two_each()
        for line in ("scaled x 4 2", "scaled x 24 9", "scaled x 2 0", "scaled x 6 -3", "scaled x 3 999999999999999999"):
            self.assert_no(desk, line, "unit")
        for line in (
            "still x 25", "turns x 25", "scaled x 25 1", "scaled x 25 5", "scaled x 100 0",
            "still x 999999999999999999",
        ):
            self.assert_no(desk, line, "big")
        for line in ("still v 24", "turns w 13", "turns y 12"):
            self.assert_says(desk, line, "ok")
        for line in ("side x v u", "side x w y", "paired x w u", "paired x v v"):
            self.assert_no(desk, line, "big")
        for line in ("side a y y", "paired b y u"):
            self.assert_says(desk, line, "ok")
        self.assert_no(desk, "like w u", "big")
        self.assert_no(desk, "like u w", "big")
        self.assert_says(desk, "turns six 6", "ok")
        self.assert_says(desk, "turns seven 7", "ok")
        self.assert_says(desk, "like six six", "0 1 2 3 4 5")
        self.assert_no(desk, "like seven seven", "big")

    def test_beside_that_is_too_big(self):
        twenty = show_drawing(numbered(20, 6))
        desk = self.desk("draw a " + twenty, "draw b " + twenty, "draw c ring o1+ u1", "draw d ring", "beside e a b")
        for line in ("beside x e c", "beside x c e", "beside x e d", "beside x e e"):
            self.assert_no(desk, line, "big")

    def test_prime_and_unit(self):
        desk = self.two_each()
        for prime in ("0", "1", "-3", "4", "9", "100003", "999999999999999999", "99999"):
            for factor in ("1", "0", prime):
                self.assert_no(desk, f"straight d {prime} {factor}", "prime")
        for line in ("straight d 3 0", "straight d 3 -3", "straight d 2 2", "straight d 99991 99991"):
            self.assert_no(desk, line, "unit")

    def test_much(self):
        eight = " ".join(["ring"] * 8)
        desk = self.desk(f"draw a {eight} ring", f"draw b {eight}", "still t 4", "turns u 24")
        self.assert_no(desk, "many a t", "much")
        self.assert_no(desk, "colours a t", "much")
        self.assert_no(desk, "many b u", "much")
        self.assert_says(desk, "many b t", "65536")
        for line in ("part a b 4", "part b a 4", "part a a 4"):
            self.assert_no(desk, line, "much")
        for size in ("5", "25", "999999999999999999"):
            self.assert_no(desk, "part a b " + size, "big")

    def test_moves_that_are_not_legal(self):
        desk = self.two_each()
        for move in ("turn 1 0", "turn -1 0", "uncurl 0 5", "curl 0 0 1 over +", "curl 0 99 9 over +", "unlay 0 0 0 0"):
            self.assert_no(desk, "move d " + move, "move")
        for line in ("pass 0 0 0 0 0 0", "lay 0 0 0 1 9 10 plain +", "lay 0 0 0 3 9 9 plain +", "curl 0 0 0 over +"):
            self.assert_no(desk, "move d " + line, "move")

    def test_the_first_of_several(self):
        # line, name, room, kind, broken and then the function's own: each pair in its order.
        full = self.full_desk(24)
        for line in ("dual d d x", "still d 0", "table d 1", "draw T ring", "scaled d 25", "move nothing turn"):
            self.assert_no(full, line, "line")
        for line in ("dual d t", "dual x nothing", "side x nothing d", "side x d nothing", "still d 25", "flipped t t"):
            self.assert_no(full, line, "name")
        self.assert_no(full, "table d 1 0 / 0 1", "name")
        for line in ("dual x d", "side x d d", "flipped x t", "beside x d t", "still x 25", "scaled x 4 2"):
            self.assert_no(full, line, "room")
        self.assert_no(full, "table x 1 0 / 0 1", "room")
        desk = self.two_each()
        for line, word in (
            ("many nothing d", "name"), ("many t nothing", "name"), ("part t nothing 9", "name"),
            ("part t d 9", "kind"), ("straight t 4 0", "kind"), ("move t uncurl 9 9", "kind"), ("undo t", "kind"),
            ("redo u", "kind"),
            ("undo e", "undo"), ("redo e", "redo"), ("scaled x 26 13", "big"), ("straight d 4 4", "prime"),
            ("like t d", "kind"),
        ):
            self.assert_no(desk, line, word)

    def test_what_was_refused_is_taken_as_soon_as_it_is_good(self):
        desk = self.desk("still a 2")
        for line, word in (("many d t", "name"), ("draw a ring", "name"), ("undo d", "name")):
            self.assert_no(desk, line, word)
        for line in ("drop a", "draw a ring", "turns t 3", "draw d ring", "move d turn 0 1", "undo d"):
            self.assert_says(desk, line, "ok")
        self.assert_says(desk, "many d t", "3")


class Whole(DeskTest):
    def test_desks_are_apart(self):
        one, other = self.desk("draw a ring"), self.desk("turns a 3")
        self.assert_says(one, "show a", "ring")
        self.assert_says(other, "show a", "0 2 1 / 2 1 0 / 1 0 2")
        self.assert_says(Desk(), "names")

    def test_told_lists_are_the_askers_own(self):
        desk = self.two_each()
        lines = ["names", "show d", "moves d", "colours d t", "many d t", "down e", "part d e 3", "like t t", "undo x"]
        for line in lines + ["x"]:
            told = desk.say(line)
            expected = list(told)
            told.append("spoilt")
            told.reverse()
            again = desk.say(line)
            self.assertEqual(again, expected)
            self.assertIsNot(again, told)

    def test_the_same_question_is_answered_alike(self):
        desk = self.two_each()
        for line in ("names", "show d", "moves d", "colours d t", "straight d 3 2", "part d e 3", "like t u", "arcs d"):
            self.assertEqual(desk.say(line), desk.say(line))

    def test_chains_said_to_a_desk(self):
        # Point 5: as many colourings behind each move, carried one to one, parted by no table.
        for seed in range(12):
            drawing = [TREFOIL, HOPF, ([[], []], [])][seed % 3]
            desk = self.desk("draw a " + show_drawing(drawing), "turns t 3", "flipped b a", "flipped c b")
            number = desk.say("many a t")
            moves = chain_from(drawing, 15, seed, 4)
            for count, move in enumerate(moves, start=1):
                self.assert_says(desk, "move a " + show_move(move), "ok")
                self.assertEqual(desk.say("many a t"), number)
                self.assert_says(desk, "part a c 3", "alike")
                there = read_drawing(desk.say("show a")[0])
                self.assertEqual(there, led(drawing, moves[:count]))
                told = [led_along(drawing, moves[:count], turns(3), each) for each in colourings(drawing, turns(3))]
                self.assertEqual([show_colours(each) for each in sorted(told)], desk.say("colours a t"))
            self.assertEqual([read_move(line) for line in desk.say("moves a")], moves)

    def test_long_sessions(self):
        """Moves, undo, redo and down as they come; the drawing is always the one last laid, led along what stands."""
        for seed in range(15):
            source = random.Random(seed)
            base = [TREFOIL, HOPF, ([[], []], []), numbered(5, 2, seed)][seed % 4]
            desk = self.desk("draw a " + show_drawing(base))
            standing, taken = [], []
            for each in range(80):
                choice = source.random()
                here = led(base, standing)
                if choice < 0.45:
                    move = chain_from(here, 1, 1000 * seed + each, 12)[0]
                    if choice < 0.1:
                        move = ("uncurl", 0, source.randrange(4))
                    if plain_legal(here, move):
                        self.assert_says(desk, "move a " + show_move(move), "ok")
                        standing, taken = standing + [move], []
                    else:
                        self.assert_says(desk, "move a " + show_move(move), "no move")
                elif choice < 0.65:
                    self.assert_says(desk, "undo a", "ok" if standing else "no undo")
                    standing, taken = standing[:-1], taken + standing[-1:]
                elif choice < 0.95:
                    self.assert_says(desk, "redo a", "ok" if taken else "no redo")
                    standing, taken = standing + taken[-1:], taken[:-1]
                else:
                    moves = simpler(here)[1]
                    self.assert_says(desk, "down a", *[show_move(move) for move in moves])
                    standing, taken = standing + moves, [] if moves else taken
                self.assert_says(desk, "show a", show_drawing(led(base, standing)))
                self.assert_says(desk, "moves a", *[show_move(move) for move in standing])

    def test_any_text_is_answered(self):
        source = random.Random(8)
        signs = [chr(code) for code in range(32, 127) if chr(code) != "%"] + ["\n"]
        words = ["d", "e", "t", "u", "x", "ring", "o1+", "u1", "0", "1", "2", "/", "turn", "over", "", "\n", *FORMS]
        desk = self.two_each()
        for each in range(3000):
            line = " ".join(source.choices(words, k=source.randrange(6)))
            if each % 3 == 0:
                line = "".join(source.choices(signs, k=source.randrange(8)))
            told = desk.say(line)
            self.assertIs(type(told), list)
            self.assertTrue(all(isinstance(one, str) for one in told))


if __name__ == "__main__":
    unittest.main()
