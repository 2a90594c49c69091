"""Points 1 to 5 over the whole program: the interface, whose lists are whose, refusals, and what moves leave alike."""

import copy
import importlib
import inspect
import itertools
import unittest

from plait.alike import kinds
from plait.carrying import carried
from plait.chains import led, led_along, led_back
from plait.colours import colourings, fits, many
from plait.desk import Desk
from plait.every import tables
from plait.marks import mark, parted
from plait.moves import done, undone
from plait.straight import straight_many
from plait.texts import show_drawing, show_move
from tests.helpers import BIG, HOPF, TREFOIL, PlaitTest, chain_from, formula_table, numbered, spoil

# Each function of the interface: its arguments, calls that are answered, and calls that are refused.
TURNS = formula_table(3, -1)
GROUP = [[0, 1, 2], [1, 2, 0], [2, 0, 1]]
PAIRS = ([[1, 2], [-1, -2]], [(1, 1), (2, -1)])
CURL = ("curl", 0, 2, 7, "over", 1)
NO_MOVE = ("turn", 9, 0)
RINGS = ([[] for each in range(12)], [])
FULL = numbered(40, 12)
BIGGEST = formula_table(24, 7)
INTERFACE = {
    "drawings.fault": ("drawing", [(TREFOIL,), (([[1]], []),)], []),
    "drawings.checked": ("drawing", [(TREFOIL,)], [("NotADrawing", ([[1]], []))]),
    "drawings.crossings": ("drawing", [(TREFOIL,)], []),
    "drawings.sign_of": ("drawing crossing", [(TREFOIL, 2)], [("NoCrossing", TREFOIL, 4)]),
    "drawings.spot": ("drawing passage", [(TREFOIL, -2)], [("NoCrossing", TREFOIL, 0)]),
    "arcs.arcs": ("drawing", [(TREFOIL,), (HOPF,)], []),
    "arcs.arc_count": ("drawing", [(TREFOIL,)], []),
    "arcs.meets": ("drawing", [(TREFOIL,)], []),
    "shapes.turned": ("drawing walk by", [(TREFOIL, 0, 2), (TREFOIL, 0, 0)], []),
    "shapes.flipped": ("drawing", [(TREFOIL,)], []),
    "shapes.backward": ("drawing", [(TREFOIL,)], []),
    "shapes.beside": ("one other", [(TREFOIL, HOPF), (TREFOIL, TREFOIL)], [("TooBig", FULL, HOPF)]),
    "tables.broken": ("table", [(TURNS,), ([[1, 0], [0, 1]],)], []),
    "tables.by": ("table a b", [(TURNS, 0, 1)], []),
    "tables.back": ("table a b", [(TURNS, 0, 1)], []),
    "tables.dual": ("table", [(formula_table(5, 2),)], []),
    "tables.still": ("size", [(3,)], [("TooBig", 25)]),
    "tables.turns": ("size", [(3,)], [("TooBig", BIG)]),
    "tables.scaled": ("size factor", [(5, -BIG)], [("TooBig", 25, 5), ("NoUnit", 4, 2)]),
    "joins.side": ("one other", [(TURNS, TURNS)], [("TooBig", BIGGEST, [[0]])]),
    "joins.paired": ("one other", [(TURNS, TURNS)], [("TooBig", BIGGEST, BIGGEST)]),
    "joins.moved": ("table places", [(TURNS, [1, 2, 0])], []),
    "parts.grown": ("table some", [(TURNS, [0, 1]), (TURNS, [])], []),
    "parts.part": ("table members", [(TURNS, [1])], [("NotClosed", TURNS, []), ("NotClosed", TURNS, [0, 1])]),
    "parts.orbits": ("table", [(TURNS,), (formula_table(4, -1),)], []),
    "groups.group_broken": ("group", [(GROUP,), ([[1]],)], []),
    "groups.cycle": ("size", [(4,)], [("TooBig", 25)]),
    "groups.orders": ("count", [(3,)], [("TooBig", 5)]),
    "groups.both": ("one other", [(GROUP, GROUP)], [("TooBig", [[0] * 9] * 9, GROUP)]),
    "groups.inverse": ("group a", [(GROUP, 1)], []),
    "made.conjugates": ("group", [(GROUP,)], []),
    "made.cores": ("group", [(GROUP,)], []),
    "made.class_of": ("group a", [(GROUP, 1)], []),
    "made.class_table": ("group a", [(GROUP, 1)], []),
    "every.tables": ("size", [(1,), (3,)], [("TooBig", 5)]),
    "alike.like": ("one other", [(TURNS, TURNS), (TURNS, [[0]])], [("TooBig", TURNS, formula_table(7, -1))]),
    "alike.kinds": ("size", [(3,)], [("TooBig", 5)]),
    "alike.unlike": ("one other", [(TURNS, formula_table(3, 1))], [("TooBig", formula_table(7, -1), TURNS)]),
    "alike.shuts": ("one other paper", [(TURNS, TURNS, [((0, 0), 0, 0)])], [("TooBig", BIGGEST, TURNS, [])]),
    "alike.keeping": ("one other images", [(TURNS, TURNS, [0, 0, 0])], []),
    "colours.fits": ("drawing table colours", [(TREFOIL, TURNS, [0, 1, 2])], []),
    "colours.colourings": ("drawing table", [(TREFOIL, TURNS), (([], []), TURNS)], [("TooMuch", RINGS, TURNS)]),
    "colours.many": ("drawing table", [(TREFOIL, TURNS)], [("TooMuch", RINGS, TURNS)]),
    "colours.spread": ("drawing colours", [(TREFOIL, [0, 1, 2])], []),
    "colours.gathered": ("drawing ways", [(HOPF, [[4, 4], [7, 7]])], [("NoFit", TREFOIL, [[0, 1, 2, 3, 4, 5]])]),
    "moves.legal": ("drawing move", [(TREFOIL, CURL), (TREFOIL, NO_MOVE)], []),
    "moves.done": ("drawing move", [(TREFOIL, CURL)], [("NoMove", TREFOIL, NO_MOVE)]),
    "moves.undone": ("drawing move", [(TREFOIL, CURL)], [("NoMove", TREFOIL, NO_MOVE)]),
    "carrying.carried": (
        "drawing move table colours", [(TREFOIL, CURL, TURNS, [0, 1, 2])],
        [("NoMove", TREFOIL, NO_MOVE, TURNS, [0]), ("NoFit", TREFOIL, CURL, TURNS, [0])],
    ),
    "chains.led": ("drawing moves", [(TREFOIL, [CURL]), (TREFOIL, [])], [("NoChain", TREFOIL, [CURL, CURL])]),
    "chains.led_back": ("drawing moves", [(TREFOIL, [CURL]), (TREFOIL, [])], [("NoChain", TREFOIL, [CURL, CURL])]),
    "chains.led_along": (
        "drawing moves table colours", [(TREFOIL, [CURL], TURNS, [0, 1, 2]), (TREFOIL, [], TURNS, [0, 1, 2])],
        [("NoChain", TREFOIL, [NO_MOVE], TURNS, [0]), ("NoFit", TREFOIL, [CURL], TURNS, [0, 0, 1])],
    ),
    "simple.simpler": ("drawing", [(TREFOIL,), (PAIRS,)], []),
    "marks.mark": ("drawing size", [(TREFOIL, 3)], [("TooBig", RINGS, 5), ("TooMuch", RINGS, 4)]),
    "marks.parted": (
        "one other size", [(TREFOIL, HOPF, 3), (HOPF, HOPF, 2)],
        [("TooBig", RINGS, HOPF, 5), ("TooMuch", HOPF, RINGS, 4)],
    ),
    "straight.equations": (
        "drawing prime factor", [(TREFOIL, 7, 3)], [("NoPrime", TREFOIL, 4, 4), ("NoUnit", TREFOIL, 3, 6)],
    ),
    "straight.keeps": (
        "drawing prime factor colours", [(TREFOIL, 3, 2, [0, 1, BIG])],
        [("NoPrime", TREFOIL, BIG, BIG, [0, 0, 0]), ("NoUnit", TREFOIL, 3, 0, [0, 0, 0])],
    ),
    "straight.solved": (
        "drawing prime factor", [(TREFOIL, 7, 3)], [("NoPrime", TREFOIL, 1, 1), ("NoUnit", TREFOIL, 2, 2)],
    ),
    "straight.straight_many": (
        "drawing prime factor", [(TREFOIL, 3, 2)], [("NoPrime", HOPF, 0, 0), ("NoUnit", HOPF, 5, -(10 ** 59))],
    ),
    "texts.show_drawing": ("drawing", [(TREFOIL,)], []),
    "texts.show_table": ("table", [(TURNS,)], []),
    "texts.show_colours": ("colours", [([0, -BIG],)], []),
    "texts.show_move": ("move", [(CURL,)], []),
    "texts.read_drawing": ("line", [("ring o1+ u1",), ("",)], [("NoLine", "ring o1+")]),
    "texts.read_table": ("line", [("0 0 / 1 1",)], [("NoLine", "")]),
    "texts.read_colours": ("line", [("1 2",), ("",)], [("NoLine", " ")]),
    "texts.read_move": ("line", [("turn 0 1",)], [("NoLine", "turn 0")]),
}


def function_of(name):
    module, called = name.split(".")
    return getattr(importlib.import_module("plait." + module), called)


class Interface(PlaitTest):
    def test_each_function_with_its_arguments(self):
        for name, (arguments, answered, refused) in INTERFACE.items():
            parameters = inspect.signature(function_of(name)).parameters.values()
            self.assertEqual([each.name for each in parameters], arguments.split(" "), name)
            self.assertTrue(all(each.default is inspect.Parameter.empty for each in parameters), name)

    def test_the_desk(self):
        self.assertEqual(list(inspect.signature(Desk).parameters), [])
        self.assertEqual(list(inspect.signature(Desk.say).parameters), ["self", "line"])
        self.assertEqual(Desk().say("names"), [])

    def test_whose_lists(self):
        for name, (arguments, answered, refused) in INTERFACE.items():
            for handed in answered:
                self.assert_own_lists(function_of(name), *handed)

    def test_refusals(self):
        for name, (arguments, answered, refused) in INTERFACE.items():
            function = function_of(name)
            before = [copy.deepcopy(function(*handed)) for handed in answered]
            for refusal, *handed in refused:
                self.assert_refused(getattr(importlib.import_module("plait.errors"), refusal), function, *handed)
            # What was refused leaves no trace.
            self.assertEqual([function(*handed) for handed in answered], before, name)

    def test_answers_do_not_hang_on_what_was_asked_ahead(self):
        expected = {}
        for name, (arguments, answered, refused) in INTERFACE.items():
            expected[name] = [copy.deepcopy(function_of(name)(*copy.deepcopy(handed))) for handed in answered]
        for name in reversed(list(INTERFACE)):
            for handed, told in zip(INTERFACE[name][1], expected[name]):
                found = function_of(name)(*copy.deepcopy(handed))
                self.assertEqual(found, told, name)
                spoil(found)


class MovesLeaveAlike(PlaitTest):
    def test_colourings_go_one_to_one(self):
        for seed in range(15):
            drawing = [TREFOIL, HOPF, PAIRS, ([[], []], []), numbered(3, 2, seed)][seed % 5]
            table = [TURNS, [[0, 2, 3, 1], [3, 1, 0, 2], [1, 3, 2, 0], [2, 0, 1, 3]]][seed % 2]
            here, carried_ones = drawing, colourings(drawing, table)
            for move in chain_from(drawing, 20, seed, 4):
                there = done(here, move)
                told = [carried(here, move, table, colours) for colours in carried_ones]
                self.assertEqual(sorted(told), colourings(there, table))
                self.assertEqual(many(there, table), many(drawing, table))
                self.assertTrue(all(fits(there, table, colours) for colours in told))
                back = undone(here, move)
                self.assertEqual([carried(there, back, table, colours) for colours in told], carried_ones)
                here, carried_ones = there, told

    def test_no_table_parts_them(self):
        for seed in range(10):
            drawing = [TREFOIL, HOPF, PAIRS, ([[]], []), numbered(3, 2, seed)][seed % 5]
            moves = chain_from(drawing, 15, seed, 4)
            there = led(drawing, moves)
            self.assertIsNone(parted(drawing, there, 4))
            self.assertEqual(mark(drawing, 4), mark(there, 4))
            for prime, factor in ((2, 1), (3, -1), (99991, 7)):
                self.assertEqual(straight_many(drawing, prime, factor), straight_many(there, prime, factor))

    def test_chains_that_are_said_to_a_desk(self):
        for seed in range(10):
            drawing = [TREFOIL, HOPF, PAIRS, ([[], []], [])][seed % 4]
            moves = chain_from(drawing, 12, seed, 4)
            desk = Desk()
            desk.say("draw here " + show_drawing(drawing))
            desk.say("draw there " + show_drawing(drawing))
            for move in moves:
                self.assertEqual(desk.say("move there " + show_move(move)), ["ok"])
            self.assertEqual(desk.say("show there"), [show_drawing(led(drawing, moves))])
            self.assertEqual(desk.say("part here there 4"), ["alike"])
            for move in led_back(drawing, moves):
                self.assertEqual(desk.say("move there " + show_move(move)), ["ok"])
            self.assertEqual(desk.say("show there"), desk.say("show here"))

    def test_by_all_tables_of_small_sizes(self):
        moves = chain_from(TREFOIL, 10, 4, 4)
        there = led(TREFOIL, moves)
        for table in itertools.chain(tables(2), tables(3), kinds(4)):
            told = [led_along(TREFOIL, moves, table, colours) for colours in colourings(TREFOIL, table)]
            self.assertEqual(sorted(told), colourings(there, table))


if __name__ == "__main__":
    unittest.main()
