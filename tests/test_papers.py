"""Papers of a piece and a grid [32], and their looker [33]."""

import copy
import itertools
import unittest

from borderfloor.allgrids import grids_of
from borderfloor.errors import FloorError, NotAsMany
from borderfloor.layings import floors_of
from borderfloor.papers import paper_of, shows
from helper import BIG, FAR, chance_pieces, drawn, pieces_up_to, shifted

ONE = ((0, 0),)
DOMINO = ((0, 0), (1, 0))
LEANING = drawn("##./.##")
MANY = pieces_up_to(5) + chance_pieces(8, 8, 60) + chance_pieces(10, 8, 61)


class PaperTest(unittest.TestCase):
    def test_a_floor_told_by_hand(self):
        self.assertEqual(paper_of(ONE, (1, 0, 1)), ("floor", {(0, 0): (0, 0)}))
        self.assertEqual(paper_of(DOMINO, (2, 1, 1)), ("floor", {(0, 0): (0, 0), (1, 0): (1, 0)}))
        expected = {(1, 0): (1, 0), (2, 0): (2, 0), (3, 0): (0, 1), (0, 0): (1, 1)}
        self.assertEqual(paper_of(LEANING, (4, 1, 1)), ("floor", expected))
        self.assertEqual(paper_of(((7, -9),), (1, 0, 1)), ("floor", {(0, 0): (7, -9)}))

    def test_a_meet_told_by_hand(self):
        told = paper_of(DOMINO, (1, 0, 2))
        self.assertIn(told, [("meet", (0, 0), (1, 0), -1, 0), ("meet", (1, 0), (0, 0), 1, 0)])
        # Only (0, 0) and (2, 1) meet, which differ by the lean.
        told = paper_of(drawn("..#/###"), (4, 2, 1))
        self.assertIn(told, [("meet", (0, 0), (2, 1), 0, -1), ("meet", (2, 1), (0, 0), 0, 1)])

    def test_all_papers(self):
        kinds = {}
        for piece, shift in itertools.product(MANY, ((0, 0), (-3, 4), FAR[3])):
            there = shifted(piece, shift)
            floors = floors_of(there)
            for grid in grids_of(len(piece)):
                paper = paper_of(there, grid)
                a, b, d = grid
                self.assertIs(type(paper), tuple)
                kinds[paper[0]] = True
                self.assertIs(shows(there, grid, paper), True)
                if grid in floors:
                    word, table = paper
                    self.assertEqual(word, "floor")
                    self.assertIs(type(table), dict)
                    self.assertEqual(set(table), set(itertools.product(range(a), range(d))))
                    self.assertEqual(sorted(table.values()), sorted(there))
                    for rest, own in table.items():
                        north, left = divmod(own[1] - rest[1], d)
                        self.assertEqual((left, (own[0] - rest[0] - north * b) % a), (0, 0))
                else:
                    word, one, other, i, j = paper
                    self.assertEqual(word, "meet")
                    self.assertEqual((type(i), type(j)), (int, int))
                    self.assertIn(one, there)
                    self.assertIn(other, there)
                    self.assertNotEqual(one, other)
                    self.assertEqual(one, (other[0] + i * a + j * b, other[1] + j * d))
        self.assertEqual(set(kinds), {"floor", "meet"})

    def test_a_grid_with_another_number_of_rests(self):
        for piece, grid in ((ONE, (2, 0, 1)), (DOMINO, (1, 0, 1)), (LEANING, (5, 2, 1)), (LEANING, (BIG, 0, BIG))):
            with self.assertRaises(FloorError) as taken:
                paper_of(piece, grid)
            self.assertIs(type(taken.exception), NotAsMany)

    def test_the_told_dict_is_the_askers_own(self):
        table = paper_of(LEANING, (4, 1, 1))[1]
        as_it_was = dict(table)
        table.clear()
        table[(9, 9)] = (9, 9)
        self.assertEqual(paper_of(LEANING, (4, 1, 1)), ("floor", as_it_was))
        self.assertIs(shows(LEANING, (4, 1, 1), ("floor", as_it_was)), True)
        self.assertIs(shows(LEANING, (4, 1, 1), ("floor", table)), False)


class ShowsTest(unittest.TestCase):
    def test_the_rows_of_a_table_in_any_order(self):
        table = paper_of(LEANING, (4, 1, 1))[1]
        for rows in itertools.permutations(table.items()):
            self.assertIs(shows(LEANING, (4, 1, 1), ("floor", dict(rows))), True)

    def wrong_tables(self, piece, table):
        rests = list(table)
        for rest in rests:
            less = dict(table)
            del less[rest]
            yield less
            for cell in piece:
                if cell != table[rest]:
                    yield {**table, rest: cell}
            moved = (table[rest][0] + 1, table[rest][1])
            yield {**table, rest: moved}
            # Another cell of the same rest that is none of the piece.
            yield {**table, rest: (table[rest][0], table[rest][1] + 420 * len(piece))}
            less[(rest[0] + 420 * len(piece), rest[1])] = table[rest]
            yield less
        yield {**table, (-1, 0): piece[0]}
        yield {**table, (0, -1): piece[0]}
        yield {**table, (99, 99): (99, 99)}
        yield {}

    def test_wrong_tables(self):
        for piece in MANY[::3]:
            for grid in floors_of(piece):
                table = paper_of(piece, grid)[1]
                for wrong in self.wrong_tables(piece, table):
                    self.assertIs(shows(piece, grid, ("floor", wrong)), False, (piece, grid, wrong))

    def test_each_cell_as_its_own_rest_is_not_enough(self):
        # The table must be told by rests, though another choice of cells would show a floor as well.
        own = dict(zip(LEANING, LEANING))
        self.assertIs(shows(LEANING, (4, 1, 1), ("floor", own)), False)

    def test_a_floor_told_of_a_grid_that_lays_none(self):
        self.assertIs(shows(DOMINO, (1, 0, 2), ("floor", {(0, 0): (0, 0), (0, 1): (1, 0)})), False)
        self.assertIs(shows(DOMINO, (1, 0, 2), ("floor", {(0, 0): (0, 0)})), False)
        self.assertIs(shows(DOMINO, (1, 0, 2), ("floor", {(0, 0): (1, 0)})), False)
        self.assertIs(shows(DOMINO, (1, 0, 2), ("floor", {})), False)
        for piece in MANY[::4]:
            for grid in grids_of(len(piece)):
                if grid not in floors_of(piece):
                    rests = itertools.product(range(grid[0]), range(grid[2]))
                    self.assertIs(shows(piece, grid, ("floor", dict(zip(rests, piece)))), False)

    def test_meets(self):
        self.assertIs(shows(DOMINO, (1, 0, 2), ("meet", (0, 0), (1, 0), -1, 0)), True)
        self.assertIs(shows(DOMINO, (1, 0, 2), ("meet", (1, 0), (0, 0), 1, 0)), True)
        piece = drawn("..#/###")
        self.assertIs(shows(piece, (4, 2, 1), ("meet", (2, 1), (0, 0), 0, 1)), True)
        self.assertIs(shows(piece, (4, 2, 1), ("meet", (0, 0), (2, 1), 0, -1)), True)

    def test_any_two_that_meet_and_no_others(self):
        for piece in pieces_up_to(4):
            for a, b, d in grids_of(len(piece)):
                for one, other in itertools.product(piece, repeat=2):
                    for i, j in itertools.product(range(-3, 4), repeat=2):
                        moved = (other[0] + i * a + j * b, other[1] + j * d)
                        paper = ("meet", one, other, i, j)
                        self.assertIs(shows(piece, (a, b, d), paper), moved == one and one != other)

    def test_wrong_numbers(self):
        for i, j in ((0, 0), (1, 0), (-1, 1), (-2, 0), (-1, -1), (BIG, 0), (-1, BIG), (BIG, -BIG)):
            self.assertIs(shows(DOMINO, (1, 0, 2), ("meet", (0, 0), (1, 0), i, j)), False)

    def test_cells_that_are_none_of_the_piece(self):
        self.assertIs(shows(DOMINO, (1, 0, 2), ("meet", (2, 0), (1, 0), 1, 0)), False)
        self.assertIs(shows(DOMINO, (1, 0, 2), ("meet", (1, 0), (2, 0), -1, 0)), False)
        self.assertIs(shows(DOMINO, (1, 0, 2), ("meet", (5, 0), (4, 0), 1, 0)), False)
        self.assertIs(shows(DOMINO, (2, 0, 1), ("meet", (BIG, 0), (BIG - 2, 0), 1, 0)), False)

    def test_two_alike_cells(self):
        for cell in DOMINO:
            self.assertIs(shows(DOMINO, (1, 0, 2), ("meet", cell, cell, 0, 0)), False)
            self.assertIs(shows(DOMINO, (2, 0, 1), ("meet", cell, cell, 0, 0)), False)

    def test_a_grid_with_another_number_of_rests(self):
        self.assertIs(shows(DOMINO, (1, 0, 1), ("meet", (0, 0), (1, 0), -1, 0)), False)
        self.assertIs(shows(DOMINO, (1, 0, 3), ("meet", (0, 0), (1, 0), -1, 0)), False)
        self.assertIs(shows(DOMINO, (3, 0, 1), ("floor", {(0, 0): (0, 0), (1, 0): (1, 0)})), False)
        self.assertIs(shows(DOMINO, (3, 0, 1), ("floor", {(0, 0): (0, 0), (1, 0): (1, 0), (2, 0): (2, 0)})), False)
        self.assertIs(shows(ONE, (BIG, BIG - 1, BIG), ("floor", {(0, 0): (0, 0)})), False)
        self.assertIs(shows(DOMINO, (1, 0, BIG), ("meet", (0, 0), (1, 0), -1, 0)), False)

    def test_far_out(self):
        for shift in FAR:
            there = shifted(DOMINO, shift)
            self.assertIs(shows(there, (1, 0, 2), ("meet", there[1], there[0], 1, 0)), True)
            self.assertIs(shows(there, (1, 0, 2), ("meet", (0, 0), (1, 0), -1, 0)), False)
            table = paper_of(there, (2, 1, 1))[1]
            self.assertIs(shows(there, (2, 1, 1), ("floor", table)), True)
            self.assertIs(shows(DOMINO, (2, 1, 1), ("floor", table)), False)

    def test_the_paper_handed_in_stays_as_it_was(self):
        table = dict(reversed(list(paper_of(LEANING, (4, 1, 1))[1].items())))
        for wrong in (table, {**table, (9, 9): (9, 9)}, {}):
            for grid in ((4, 1, 1), (4, 2, 1), (2, 0, 1)):
                as_it_was = copy.deepcopy(list(wrong.items()))
                shows(LEANING, grid, ("floor", wrong))
                self.assertEqual(list(wrong.items()), as_it_was)


if __name__ == "__main__":
    unittest.main()
