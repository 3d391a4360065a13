"""The names and arguments of the interface, and what 2 says of whatever is handed in and told."""

import importlib
import inspect
import unittest

from borderfloor.allgrids import grids_of
from borderfloor.borders import border_of, inside_of
from borderfloor.cells import added, around, before, in_order, taken
from borderfloor.drawings import drawing_of, read_drawing
from borderfloor.errors import Apart, Backward, Crossed, Hole, NotAsMany, Open, TooMany
from borderfloor.grids import grid_of, leads_to, numbers_of, rest_of, rests_in, shift_of, turned_grid
from borderfloor.layings import Laying, floors_of
from borderfloor.neighbours import across, neighbours_of, parted_by
from borderfloor.papers import paper_of, shows
from borderfloor.partings import grid_by, partings_of, shifts_by, stretches_of
from borderfloor.pieces import moved, piece_of, settled
from borderfloor.turnings import Turning, half_turned, turnings_of
from borderfloor.turns import turn_back, turn_behind, turned, turned_piece
from borderfloor.windows import window_of
from borderfloor.words import area_of, corners_of, way_of
from helper import BIG

FUNCTIONS = {
    "cells": {
        "before": ["one", "other"],
        "in_order": ["some"],
        "around": ["cell"],
        "added": ["one", "other"],
        "taken": ["one", "other"],
    },
    "pieces": {"piece_of": ["some"], "moved": ["piece", "shift"], "settled": ["piece"]},
    "turns": {
        "turned": ["pair", "k"],
        "turned_piece": ["piece", "k"],
        "turn_behind": ["k", "j"],
        "turn_back": ["k"],
    },
    "drawings": {"drawing_of": ["piece"], "read_drawing": ["text"]},
    "words": {
        "corners_of": ["corner", "word"],
        "way_of": ["word"],
        "backwards": ["word"],
        "turned_word": ["word", "k"],
        "begun_at": ["word", "place"],
        "area_of": ["word"],
    },
    "borders": {"border_of": ["piece"], "inside_of": ["corner", "word"]},
    "grids": {
        "rests_in": ["grid"],
        "shift_of": ["grid", "i", "j"],
        "numbers_of": ["grid", "shift"],
        "rest_of": ["grid", "cell"],
        "leads_to": ["grid", "cell"],
        "grid_of": ["shifts"],
        "turned_grid": ["grid", "k"],
    },
    "allgrids": {"grids_of": ["count"]},
    "layings": {"floors_of": ["piece"]},
    "partings": {
        "partings_of": ["word"],
        "stretches_of": ["word", "cuts"],
        "shifts_by": ["word", "cuts"],
        "grid_by": ["word", "cuts"],
    },
    "neighbours": {"across": ["piece"], "neighbours_of": ["piece", "grid"], "parted_by": ["piece", "grid"]},
    "turnings": {"half_turned": ["cell", "centre"], "turnings_of": ["piece"]},
    "windows": {"window_of": ["laying", "cell", "wide", "high"]},
    "papers": {"paper_of": ["piece", "grid"], "shows": ["piece", "grid", "paper"]},
}

# For each class: what it is made of, its methods with their arguments, the class it stands under.
LAYING_METHODS = {"laid": [], "spot": ["half", "own"], "meets": [], "is_floor": [], "place_of": ["cell"]}
CLASSES = {
    "layings": {"Laying": (["piece", "grid"], LAYING_METHODS, object)},
    "turnings": {"Turning": (["piece", "grid", "centre"], LAYING_METHODS, Laying)},
    "desk": {"Desk": ([], {"say": ["line"]}, object)},
}


def grown(pair, times):
    """What the program tells, handed in again and again: each time it is about doubled."""
    for number in range(times):
        pair = added(pair, pair)
    return pair


class NamesTest(unittest.TestCase):
    def test_functions_and_their_arguments(self):
        for module, functions in FUNCTIONS.items():
            for name, arguments in functions.items():
                with self.subTest(module=module, name=name):
                    found = getattr(importlib.import_module("borderfloor." + module), name)
                    self.assertTrue(inspect.isfunction(found))
                    self.assertEqual(list(inspect.signature(found).parameters), arguments)

    def test_classes_and_their_methods(self):
        for module, classes in CLASSES.items():
            for name, (arguments, methods, base) in classes.items():
                with self.subTest(module=module, name=name):
                    found = getattr(importlib.import_module("borderfloor." + module), name)
                    self.assertEqual(found.__bases__, (base,))
                    self.assertEqual(list(inspect.signature(found).parameters), arguments)
                    for method, handed in methods.items():
                        self.assertEqual(
                            list(inspect.signature(getattr(found, method)).parameters), ["self"] + handed
                        )


class KindsTest(unittest.TestCase):
    def whole(self, *numbers):
        for number in numbers:
            self.assertIs(type(number), int)

    def test_numbers_told_are_no_truths(self):
        self.whole(*added((0, 0), (0, 1)), *taken((1, 1), (0, 1)))
        for cell in around((0, 0)):
            self.whole(*cell)
        for k in range(8):
            self.whole(*turned((1, 0), k), turn_back(k))
            for j in range(8):
                self.whole(turn_behind(k, j))
        for cell in settled(piece_of([(1, 1), (0, 1)])):
            self.whole(*cell)
        for cell in read_drawing("##./.##") + inside_of((0, 0), "eenwws") + tuple(corners_of((0, 0), "en")):
            self.whole(*cell)
        self.whole(*way_of("en"), area_of("enws"), *border_of(((0, 0),))[0])
        grid = grid_of([(2, 0), (1, 1)])
        self.whole(*grid, rests_in(grid), *shift_of(grid, 1, 1), *numbers_of(grid, (1, 1)), *turned_grid(grid, 3))
        self.whole(*rest_of(grid, (1, 1)), *leads_to(grid, (1, 1)))
        for told in grids_of(2) + floors_of(((0, 0), (1, 0))) + partings_of("eenwws") + shifts_by("enws", (0, 1)):
            self.whole(*told)
        for told in across(((0, 0),)) + neighbours_of(((0, 0),), (1, 0, 1)):
            self.whole(*told)
        self.whole(*grid_by("enws", (0, 1)), *parted_by(((0, 0),), (1, 0, 1)))
        half, own, shift = Laying(((0, 0), (1, 0)), grid).place_of((1, 1))
        self.whole(*own, *shift)
        self.assertIs(half, False)
        self.assertEqual([type(stretch) for stretch in stretches_of("enws", (0, 1))], [str, str])
        self.whole(*half_turned((1, 1), (2, 3)))
        for there, centre in turnings_of(((0, 0),)):
            self.whole(*there, *centre)
        half, own, shift = Turning(((0, 0), (1, 0)), (4, 1, 1), (3, 0)).place_of((3, 0))
        self.whole(*own, *shift)
        self.assertIs(half, True)
        for rest, own in paper_of(((0, 0), (1, 0)), grid)[1].items():
            self.whole(*rest, *own)
        self.whole(*paper_of(((0, 0), (1, 0)), (1, 0, 2))[3:])

    def test_truths_told_are_truths(self):
        self.assertIs(before((0, 0), (1, 0)), True)
        self.assertIs(before((1, 0), (0, 0)), False)

    def test_like_answers_whatever_was_asked_between(self):
        some = [(1, 0), (0, 0), (0, 1)]
        first = (in_order(some), around((1, 0)), piece_of(some), turned_piece(piece_of(some), 5))
        with self.assertRaises(Apart):
            piece_of([(0, 0), (2, 2)])
        in_order(some).clear()
        around((1, 0)).clear()
        self.assertEqual(
            (in_order(some), around((1, 0)), piece_of(some), turned_piece(piece_of(some), 5)), first
        )
        self.assertEqual(some, [(1, 0), (0, 0), (0, 1)])

    def test_two_hundred_things(self):
        some = [(x % 5, x % 2) for x in range(200)]
        self.assertEqual(len(in_order(some)), 200)
        self.assertEqual(len(piece_of(some)), 10)


class ManyFiguresTest(unittest.TestCase):
    """What was told may be handed in again, however many figures it has."""

    def setUp(self):
        self.there = grown((BIG, -BIG), 20000)
        self.x, self.y = self.there
        self.assertEqual(self.x, BIG * 2 ** 20000)
        self.assertEqual(self.y, -self.x)

    def near(self, *pairs):
        return [(self.x + x, self.y + y) for x, y in pairs]

    def test_cells(self):
        self.assertTrue(before((self.x, self.y), (self.x + 1, self.y)))
        self.assertTrue(around(self.there) == self.near((1, 0), (0, 1), (-1, 0), (0, -1)))
        self.assertTrue(in_order(self.near((1, 1), (0, 1), (5, 0))) == self.near((5, 0), (0, 1), (1, 1)))
        self.assertEqual(taken(self.there, self.there), (0, 0))

    def test_pieces(self):
        piece = piece_of(self.near((1, 1), (0, 1), (1, 0)))
        self.assertTrue(list(piece) == self.near((1, 0), (0, 1), (1, 1)))
        self.assertEqual(settled(piece), ((1, 0), (0, 1), (1, 1)))
        self.assertEqual(moved(piece, taken((0, 0), self.there)), ((1, 0), (0, 1), (1, 1)))

    def test_refusals(self):
        ring = [(x, y) for x in range(3) for y in range(3) if (x, y) != (1, 1)]
        with self.assertRaises(Hole) as hole:
            piece_of(self.near(*ring))
        self.assertTrue([hole.exception.cell] == self.near((1, 1)))
        with self.assertRaises(Apart) as apart:
            piece_of([(0, 0), self.there])
        self.assertTrue(apart.exception.cell == (0, 0))
        with self.assertRaises(Apart) as apart:
            piece_of(self.near((0, 0), (1, 1)))
        self.assertTrue([apart.exception.cell] == self.near((1, 1)))
        with self.assertRaises(TooMany):
            piece_of(self.near(*[(x, 0) for x in range(11)]))
        for error in (hole.exception, apart.exception):
            self.assertNotEqual(str(error), "")

    def test_turns(self):
        for k in range(8):
            self.assertTrue(turned(turned(self.there, k), turn_back(k)) == self.there)
        piece = piece_of(self.near((0, 0), (1, 0)))
        self.assertTrue(turned_piece(turned_piece(piece, 5), turn_back(5)) == piece)

    def test_drawings_words_and_borders(self):
        piece = piece_of(self.near((1, 0), (2, 0), (0, 1), (1, 1)))
        self.assertEqual(drawing_of(piece), "##./.##")
        corner, word = border_of(piece)
        self.assertEqual(word, "eenwnwwses")
        self.assertTrue(corners_of(corner, "en") == self.near((1, 0), (2, 0), (2, 1)))
        self.assertTrue(inside_of(corner, word) == piece)
        for kind, wrong in ((Open, "en"), (Crossed, "ewew"), (Backward, "nesw"), (TooMany, "eeeennnwwwwsss")):
            with self.assertRaises(kind):
                inside_of(corner, wrong)

    def test_grids(self):
        grid = (self.x, self.x - 1, self.x + 1)
        self.assertTrue(rests_in(grid) == self.x * self.x + self.x)
        shift = shift_of(grid, self.x, self.y)
        self.assertTrue(numbers_of(grid, shift) == self.there)
        self.assertIsNone(numbers_of(grid, added(shift, (1, 0))))
        self.assertTrue(rest_of(grid, added(shift, (3, 4))) == (3, 4))
        self.assertTrue(leads_to(grid, added(shift, (3, 4))) == shift)
        self.assertTrue(grid_of([(self.x, 0), (self.x - 1, self.x + 1), shift]) == grid)
        self.assertTrue(turned_grid(turned_grid(grid, 5), turn_back(5)) == grid)

    def test_floors(self):
        piece = piece_of(self.near((1, 0), (2, 0), (0, 1), (1, 1)))
        floors = [(2, 0, 2), (2, 1, 2), (4, 1, 1)]
        self.assertEqual(floors_of(piece), floors)
        self.assertEqual([parted_by(piece, grid) for grid in floors], [parted_by(settled(piece), grid) for grid in floors])
        self.assertTrue(across(piece)[:2] == self.near((1, -1), (2, -1)))
        half, own, shift = Laying(piece, (4, 1, 1)).place_of((0, 0))
        self.assertTrue(added(own, shift) == (0, 0))
        self.assertTrue(numbers_of((4, 1, 1), shift) is not None)
        with self.assertRaises(NotAsMany):
            Laying(piece, (self.x, 1, self.x))

    def test_turnings_windows_and_papers(self):
        self.assertTrue(half_turned(self.there, (3, 5)) == (3 - self.x, 5 - self.y))
        piece = piece_of(self.near((0, 0), (1, 0)))
        centre = added(added(self.there, self.there), (3, 0))
        turning = Turning(piece, (4, 1, 1), centre)
        self.assertTrue(turning.place_of((self.x + 3, self.y)) == (True, self.there, (0, 0)))
        self.assertEqual(window_of(turning, self.there, 5, 2), ["AabBA", "abBAa"])
        self.assertEqual(len(turnings_of(piece)), 8)
        with self.assertRaises(NotAsMany):
            Turning(piece, (self.x, 1, self.x), centre)
        for grid in grids_of(2):
            paper = paper_of(piece, grid)
            self.assertIs(shows(piece, grid, paper), True)
            self.assertIs(shows(((0, 0), (1, 0)), grid, paper), False)
        self.assertIs(shows(piece, (1, 0, 2), ("meet", piece[1], piece[0], self.x, self.y)), False)


if __name__ == "__main__":
    unittest.main()
