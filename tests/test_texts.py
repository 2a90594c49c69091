"""Points 41, 42, 43, and 2, 3, 4 for plait/texts.py."""

import itertools
import random
import re
import unittest

from plait.drawings import fault
from plait.errors import NoLine
from plait.texts import (
    read_colours, read_drawing, read_move, read_table, show_colours, show_drawing, show_move, show_table,
)
from tests.helpers import (
    BIG, FAR, HOPF, TREFOIL, PlaitTest, formula_table, good_tables, legal_moves, made, many_drawings, numbered,
)

NUMBER = re.compile(r"(0|-?[1-9][0-9]{0,17})", re.ASCII)
# What is no whole number as it is written, or has too many figures.
NO_NUMBERS = [
    "+5", "05", "-0", "-05", "00", "-", "--5", "5-", "1.0", "1_0", "0x1", "x", "5a", "a5", "1e3", "+", "5+", "5\n",
    "\n5", "\n", "5,", "'5'", "9" * 19, "-" + "9" * 19, "1" + "0" * 18, "1" * 60, "-" + "1" * 60, "/5", "o5",
]
GOOD_NUMBERS = {
    "0": 0, "5": 5, "-5": -5, "10": 10, "-10": -10, "9" * 18: 10 ** 18 - 1, "-" + "9" * 18: 1 - 10 ** 18,
    "1" + "0" * 17: 10 ** 17,
}
READERS = [read_drawing, read_table, read_colours, read_move]
MOVES = {
    "turn 0 2": ("turn", 0, 2),
    "turn -3 -999999999999999999": ("turn", -3, 1 - 10 ** 18),
    "curl 0 2 7 over +": ("curl", 0, 2, 7, "over", 1),
    "curl 1 0 -9 under -": ("curl", 1, 0, -9, "under", -1),
    "uncurl 3 0": ("uncurl", 3, 0),
    "lay 0 1 1 2 7 8 crossed -": ("lay", 0, 1, 1, 2, 7, 8, True, -1),
    "lay 0 1 1 2 7 8 plain +": ("lay", 0, 1, 1, 2, 7, 8, False, 1),
    "lay -1 0 0 0 0 -5 plain -": ("lay", -1, 0, 0, 0, 0, -5, False, -1),
    "unlay 1 2 3 4": ("unlay", 1, 2, 3, 4),
    "pass 1 2 3 4 5 6": ("pass", 1, 2, 3, 4, 5, 6),
    "pass 0 0 0 0 0 -1": ("pass", 0, 0, 0, 0, 0, -1),
}


def readable(drawing):
    return all(entry[0] < 10 ** 18 for entry in drawing[1])


def spaced_out(line):
    """The line with a blank at either end, and two in the place of each one."""
    yield " " + line
    yield line + " "
    yield "\n" + line
    yield line + "\n"
    for at, sign in enumerate(line):
        if sign == " ":
            yield line[:at] + " " + line[at:]
            yield line[:at] + "\n" + line[at + 1:]
            yield line[:at] + line[at + 1:] + "\n"


class TextsTest(PlaitTest):
    def assert_no_line(self, function, line):
        self.assert_refused(NoLine, function, line)

    def assert_reads(self, function, line, expected):
        told = function(line)
        self.assertEqual(told, expected)
        self.assertEqual(repr(told), repr(expected))


class Drawings(TextsTest):
    def test_shown(self):
        drawing = ([[1, -2, 3], [-1, 2, -3]], [(1, 1), (2, 1), (3, -1)])
        self.assertEqual(show_drawing(drawing), "ring o1+ u2 o3- ring u1 o2+ u3")
        self.assertEqual(show_drawing(([], [])), "")
        self.assertEqual(show_drawing(([[]], [])), "ring")
        self.assertEqual(show_drawing(([[], [4, -4], []], [(4, -1)])), "ring ring o4- u4 ring")
        self.assertEqual(show_drawing(FAR), f"ring o{BIG}- u7 ring ring u{BIG} o{10 ** 30}+ o7- u{10 ** 30}")

    def test_shown_and_read(self):
        for drawing in many_drawings():
            line = show_drawing(drawing)
            self.assertRegex(line, r"\A(ring( o[1-9][0-9]*[+-]| u[1-9][0-9]*)*( (?=ring)|\Z))*\Z")
            if readable(drawing):
                self.assert_reads(read_drawing, line, drawing)
            else:
                self.assert_no_line(read_drawing, line)

    def test_eighteen_and_nineteen_figures(self):
        most = 10 ** 18 - 1
        self.assert_reads(read_drawing, f"ring o{most}+ u{most}", ([[most, -most]], [(most, 1)]))
        self.assertEqual(show_drawing(([[10 ** 18, -(10 ** 18)]], [(10 ** 18, 1)])), f"ring o{10 ** 18}+ u{10 ** 18}")
        self.assert_no_line(read_drawing, f"ring o{10 ** 18}+ u{10 ** 18}")

    def test_the_line_without_signs(self):
        self.assert_reads(read_drawing, "", ([], []))
        for line in (" ", "  ", "\n", " \n"):
            self.assert_no_line(read_drawing, line)

    def test_signs_in_any_order(self):
        self.assert_reads(
            read_drawing, "ring o9- u2 o5+ u9 ring o2- u5", ([[9, -2, 5, -9], [2, -5]], [(2, -1), (5, 1), (9, -1)]),
        )
        self.assert_reads(read_drawing, "ring u10 o9+ ring u9 o10-", ([[-10, 9], [-9, 10]], [(9, 1), (10, -1)]))

    def test_blanks_and_line_feeds(self):
        for line in ("ring", "ring ring", "ring o1+ u1", "ring o1+ u2 o3- ring u1 o2+ u3"):
            self.assertIsNone(fault(read_drawing(line)))
            for wrong in spaced_out(line):
                self.assert_no_line(read_drawing, wrong)

    def test_words_of_no_kind(self):
        for word in (
            "", "o", "u", "o+", "o-", "u+", "1", "o1", "u1+", "u1-", "o1++", "+o1", "o1*", "O1+", "U1", "o 1+", "o-1+",
            "u-1", "o0+", "u0", "o01+", "u01", "o+1+", "u+1", "o--", "o1+o2+", "x", "/", "Ring", "rings", "ring1",
            "rin", "o1\n+", "o-0+", "u-0", "-1", "o1.0+", "ou1", "over", "under", "o1 +", "x1", "11", "-11", "v1",
            "x1+", "11+",
        ):
            lines = [f"ring o1+ u1 {word}", f"ring {word} o1+ u1", f"ring o2+ {word} u2", f"ring {word}", word]
            for line in lines + [f"ring o1+ {word}", f"ring {word} o1+", f"ring u1 {word}", f"ring {word} u1"]:
                if line != "":
                    self.assert_no_line(read_drawing, line)

    def test_the_first_word_is_ring(self):
        for line in ("o1+ u1", "o1+ ring u1", "u1 ring o1+", "x", "o1+", "0", "rng o1+ u1", "RING"):
            self.assert_no_line(read_drawing, line)
        self.assert_reads(read_drawing, "ring o1+ ring u1", ([[1], [-1]], [(1, 1)]))

    def test_what_writes_no_drawing(self):
        for line in (
            "ring o1+", "ring u1", "ring o1+ u1 o1+", "ring o1+ u1 u1", "ring o1+ u1 o2-", "ring o1+ u1 ring u2",
            "ring o1+ u1 o1- u1", "ring o1+ o1- u1", "ring o1- o1+ u1", "ring o1+ ring o1- u1", "ring o1+ o1+ u1 u1",
            "ring o1+ u2", "ring o1+ o2+ u1 u3", "ring o-1+ u-1", "ring o-1+ o1+", "ring u-1 u1", "ring o0+ u0",
            "ring u1 u-1",
            "ring o1+ u1 o-1+ u-1", "ring o-1+ u1", "ring o1+ u-1",
        ):
            self.assert_no_line(read_drawing, line)

    def test_bounds(self):
        for count, walks in ((40, 1), (40, 12), (0, 12), (3, 12)):
            drawing = numbered(count, walks)
            self.assert_reads(read_drawing, show_drawing(drawing), drawing)
        for count, walks in ((41, 1), (45, 2), (0, 13), (3, 13), (41, 13)):
            self.assert_no_line(read_drawing, show_drawing(numbered(count, walks)))

    def test_own_lists(self):
        for drawing in many_drawings()[:40]:
            self.assert_own_lists(show_drawing, drawing)
            if readable(drawing):
                self.assert_own_lists(read_drawing, show_drawing(drawing))
                self.assert_whole(read_drawing(show_drawing(drawing)))
        self.assert_asked_anew(show_drawing, (TREFOIL,), (HOPF,))


class Tables(TextsTest):
    def test_shown(self):
        self.assertEqual(show_table(formula_table(3, -1)), "0 2 1 / 2 1 0 / 1 0 2")
        self.assertEqual(show_table([[0]]), "0")
        self.assertEqual(show_table([[1, 0], [0, 1]]), "1 0 / 0 1")

    def test_shown_and_read(self):
        source = random.Random(3)
        tables = good_tables()
        for size in range(1, 25):
            tables.append([[source.randrange(size) for b in range(size)] for a in range(size)])
        for table in tables:
            line = show_table(table)
            self.assertEqual(line.split(" ").count("/"), len(table) - 1)
            self.assert_reads(read_table, line, table)

    def test_tables_that_are_not_good(self):
        self.assert_reads(read_table, "1 0 / 0 1", [[1, 0], [0, 1]])
        self.assert_reads(read_table, "0 0 / 0 0", [[0, 0], [0, 0]])

    def test_sizes(self):
        self.assert_reads(read_table, "0", [[0]])
        self.assert_reads(read_table, show_table([[23] * 24] * 24), [[23] * 24] * 24)
        for size in (25, 26, 30):
            self.assert_no_line(read_table, show_table([[0] * size] * size))
        for line in ("", " ", "/", "/ /", " / ", "0 /", "/ 0", "0 / ", "0 / / 0"):
            self.assert_no_line(read_table, line)

    def test_lists_of_unlike_lengths(self):
        for line in (
            "0 0", "0 / 0", "0 1 / 0", "0 / 0 1", "0 1 0 / 0 1", "0 1 / 0 1 0", "0 1 / 0 1 / 0 1", "0 0 0 / 0 0 0",
            "0 1 2 / 0 1 2 / 0 1", "0 1 2 / 0 1 / 0 1 2 0",
        ):
            self.assert_no_line(read_table, line)

    def test_numbers_that_are_no_colours(self):
        for line in ("1", "-1", "2", "0 1 / 2 0", "0 -1 / 0 0", "0 1 / 0 2", "5 0 / 0 0", "0 1 / 1 999999999999999999"):
            self.assert_no_line(read_table, line)

    def test_words_of_no_kind(self):
        for word in NO_NUMBERS + ["//", "|", ";", "ring"]:
            self.assert_no_line(read_table, f"0 {word} / 1 0")
            self.assert_no_line(read_table, f"{word} 1 / 1 0")
            self.assert_no_line(read_table, f"0 1 / 1 {word}")
            self.assert_no_line(read_table, word)
        for line in ("0 1/1 0", "0 1 /1 0", "0 1/ 1 0", "0 1 \n 1 0"):
            self.assert_no_line(read_table, line)

    def test_blanks_and_line_feeds(self):
        for line in ("0", "0 1 / 0 1", "0 2 1 / 2 1 0 / 1 0 2"):
            read_table(line)
            for wrong in spaced_out(line):
                self.assert_no_line(read_table, wrong)

    def test_own_lists(self):
        for table in good_tables()[::9]:
            self.assert_own_lists(show_table, table)
            self.assert_own_lists(read_table, show_table(table))
            self.assert_whole(read_table(show_table(table)))
        self.assert_asked_anew(show_table, (formula_table(3, -1),), (formula_table(4, 1),))


class Colours(TextsTest):
    def test_shown(self):
        self.assertEqual(show_colours([]), "")
        self.assertEqual(show_colours([0]), "0")
        self.assertEqual(show_colours([3, -4, 0, 10]), "3 -4 0 10")
        self.assertEqual(show_colours([BIG, -BIG]), f"{BIG} -{BIG}")
        self.assertEqual(show_colours(list(range(90))), " ".join(map(str, range(90))))

    def test_shown_and_read(self):
        for colours in ([], [0], [0, 0], [-1, 1], list(range(-45, 45)), [10 ** 18 - 1, 1 - 10 ** 18]):
            self.assert_reads(read_colours, show_colours(colours), colours)
        for number in (10 ** 18, -(10 ** 18), BIG, -BIG):
            self.assert_no_line(read_colours, show_colours([number]))
            self.assert_no_line(read_colours, show_colours([0, number, 1]))

    def test_numbers(self):
        for word, number in GOOD_NUMBERS.items():
            self.assert_reads(read_colours, word, [number])
            self.assert_reads(read_colours, f"{word} 0 {word}", [number, 0, number])
        for word in NO_NUMBERS + [" ", "/", "ring"]:
            self.assert_no_line(read_colours, word)
            self.assert_no_line(read_colours, f"1 {word}")
            self.assert_no_line(read_colours, f"{word} 1")

    def test_as_the_point_reads(self):
        # All words of up to three of these signs.
        for length in range(1, 4):
            for signs in itertools.product("019-+ \n", repeat=length):
                line = "".join(signs)
                words = line.split(" ")
                if all(NUMBER.fullmatch(word) for word in words):
                    self.assert_reads(read_colours, line, [int(word) for word in words])
                else:
                    self.assert_no_line(read_colours, line)

    def test_blanks_and_line_feeds(self):
        for line in ("0", "0 1", "-5 7 0"):
            for wrong in spaced_out(line):
                self.assert_no_line(read_colours, wrong)
        for line in (" ", "\n", "  "):
            self.assert_no_line(read_colours, line)

    def test_own_lists(self):
        for colours in ([], [0], [3, -4, 7]):
            self.assert_own_lists(show_colours, colours)
            self.assert_own_lists(read_colours, show_colours(colours))
        self.assert_asked_anew(show_colours, ([1, 2],), ([3],))


class Moves(TextsTest):
    def test_shown_and_read(self):
        for line, move in MOVES.items():
            self.assertEqual(show_move(move), line)
            self.assert_reads(read_move, line, move)
        for drawing in (TREFOIL, HOPF, ([[1, 2], [-1, -2]], [(1, 1), (2, -1)])):
            for move in legal_moves(drawing):
                self.assert_reads(read_move, show_move(move), move)

    def test_many_figures_are_shown_but_not_read(self):
        self.assertEqual(show_move(("turn", 0, BIG)), f"turn 0 {BIG}")
        self.assertEqual(show_move(("curl", 0, 0, BIG, "over", -1)), f"curl 0 0 {BIG} over -")
        moves = [("turn", 0, BIG), ("turn", 0, -(10 ** 18)), ("curl", 0, 0, BIG, "over", -1), ("uncurl", 10 ** 18, 0)]
        for move in moves:
            self.assert_no_line(read_move, show_move(move))

    def test_a_word_too_many_and_too_few(self):
        for line in MOVES:
            words = line.split(" ")
            for at in range(len(words)):
                self.assert_no_line(read_move, " ".join(words[:at] + words[at + 1:]))
            for at, word in itertools.product(range(len(words) + 1), ("0", "+", "over", "plain", "x")):
                self.assert_no_line(read_move, " ".join(words[:at] + [word] + words[at:]))
            for end in range(len(words)):
                self.assert_no_line(read_move, " ".join(words[:end]))

    def test_words_of_other_kinds(self):
        numbers = {"turn": 2, "curl": 3, "uncurl": 2, "lay": 6, "unlay": 4, "pass": 6}
        for line in MOVES:
            words = line.split(" ")
            for at in range(1, len(words)):
                wrong = NO_NUMBERS + ["over", "plain", "ring"]
                if at > numbers[words[0]]:
                    wrong = ["0", "1", "-1", "", "++", "x"]
                    wrong += ["+", "-"] if at < len(words) - 1 else ["over", "under", "crossed", "plain", "+\n"]
                    wrong += ["crossed", "plain"] if words[0] == "curl" else ["over", "under"]
                for word in wrong:
                    self.assert_no_line(read_move, " ".join(words[:at] + [word] + words[at + 1:]))

    def test_first_words(self):
        for word in ("", "Turn", "turns", "tur", "curled", "ring", "0", "un", "passes", "moves", "turn\n", "undo"):
            for rest in ("", " 0 2", " 0 0 0 0", " 0 2 7 over +"):
                self.assert_no_line(read_move, word + rest)

    def test_blanks_and_line_feeds(self):
        for line in MOVES:
            for wrong in spaced_out(line):
                self.assert_no_line(read_move, wrong)
        for line in (" ", "\n"):
            self.assert_no_line(read_move, line)

    def test_own_lists(self):
        for line, move in MOVES.items():
            self.assert_own_lists(show_move, move)
            self.assert_own_lists(read_move, line)


class All(TextsTest):
    def test_what_was_refused_does_not_stay_so(self):
        for reader, good in zip(READERS, ("ring o1+ u1", "0", "5", "turn 0 0")):
            for wrong in ("x", " ", good + " "):
                before = reader(good)
                self.assert_no_line(reader, wrong)
                self.assertEqual(reader(good), before)

    def test_any_text(self):
        source = random.Random(11)
        signs = [chr(code) for code in range(32, 127) if chr(code) != "%"] + ["\n"]
        likely = ["ring", "o1+", "u1", "o2-", "u2", "0", "1", "/", "turn", "curl", "over", "+", "-", "", "uncurl"]
        for each in range(3000):
            line = "".join(source.choices(signs, k=source.randrange(6)))
            if each % 2:
                line = " ".join(source.choices(likely, k=source.randrange(7)))
            for reader, show in zip(READERS, (show_drawing, show_table, show_colours, show_move)):
                try:
                    told = reader(line)
                except NoLine:
                    continue
                self.assertEqual(show(told), line)

    def test_names_that_are_far_apart(self):
        drawing = made([7, 10 ** 17, 10 ** 18 - 1, 12], 3, 4)
        self.assert_reads(read_drawing, show_drawing(drawing), drawing)


if __name__ == "__main__":
    unittest.main()
