"""What is promised over the whole program [3]."""

import itertools
import unittest

from borderfloor.allgrids import grids_of
from borderfloor.borders import border_of, inside_of
from borderfloor.grids import numbers_of, rest_of, turned_grid
from borderfloor.layings import Laying, floors_of
from borderfloor.neighbours import neighbours_of, parted_by
from borderfloor.papers import paper_of, shows
from borderfloor.partings import grid_by, partings_of, shifts_by
from borderfloor.pieces import moved
from borderfloor.turnings import Turning, turnings_of
from borderfloor.turns import turned, turned_piece
from borderfloor.words import begun_at, turned_word
from helper import BIG, FAR, chance_pieces, drawn, pieces_up_to

SMALL = pieces_up_to(5)
LARGE = chance_pieces(6, 6, 80) + chance_pieces(7, 6, 81) + chance_pieces(8, 6, 82) + chance_pieces(9, 6, 83)
LARGE += chance_pieces(10, 6, 84) + [drawn("#####/#####"), drawn("##########"), drawn(".#.#/####/.##.")]
SHIFTS = ((1, 0), (-4, 3)) + FAR


class WholeTest(unittest.TestCase):
    def test_a_piece_and_its_border_lead_to_each_other(self):
        for piece, shift in itertools.product(SMALL + LARGE, ((0, 0), FAR[0])):
            there = moved(piece, shift)
            corner, word = border_of(there)
            self.assertEqual(inside_of(corner, word), there)
            self.assertEqual(border_of(inside_of(corner, word)), (corner, word))

    def test_a_floor_or_two_cells_that_differ_by_a_shift(self):
        for piece in SMALL + LARGE:
            for grid in grids_of(len(piece)):
                laying = Laying(piece, grid)
                if laying.is_floor():
                    for cell in ((0, 0), (-5, 9)) + FAR:
                        half, own, shift = laying.place_of(cell)
                        self.assertEqual(moved((own,), shift), (cell,))
                        self.assertIsNotNone(numbers_of(grid, shift))
                        same = [other for other in piece if rest_of(grid, other) == rest_of(grid, cell)]
                        self.assertEqual(same, [own])
                else:
                    (half, one), (other_half, other) = laying.meets()
                    self.assertNotEqual(one, other)
                    self.assertIsNotNone(numbers_of(grid, (one[0] - other[0], one[1] - other[1])))
                self.assertIs(shows(piece, grid, paper_of(piece, grid)), True)

    def test_each_cell_of_a_field_is_covered_just_once(self):
        for piece in SMALL + LARGE:
            for grid in floors_of(piece):
                a, b, d = grid
                covered = {}
                for i, j in itertools.product(range(-60, 61), range(-30, 31)):
                    shift = (i * a + j * b, j * d)
                    if -12 <= shift[0] <= 14 and -12 <= shift[1] <= 14:
                        for cell in moved(piece, shift):
                            covered[cell] = covered.get(cell, 0) + 1
                for cell in itertools.product(range(4), repeat=2):
                    self.assertEqual(covered[cell], 1, (piece, grid))

    def test_each_floor_is_made_by_just_one_parting(self):
        for piece in SMALL + LARGE:
            word = border_of(piece)[1]
            made = [grid_by(word, cuts) for cuts in partings_of(word)]
            self.assertEqual(sorted(made), floors_of(piece))
            self.assertEqual(len(made), len(set(made)))
            for cuts, grid in zip(partings_of(word), made):
                self.assertEqual(parted_by(piece, grid), cuts)

    def test_the_copy_across_each_stretch_is_the_piece_moved_by_its_shift(self):
        for piece in SMALL + LARGE:
            word = border_of(piece)[1]
            for cuts in partings_of(word):
                neighbours = neighbours_of(piece, grid_by(word, cuts))
                ends = list(cuts[1:]) + [cuts[0] + len(word) // 2]
                for shift, start, end in zip(shifts_by(word, cuts), cuts, ends):
                    self.assertEqual(neighbours[start:end], [shift] * (end - start))

    def test_turned_and_mirrored(self):
        for piece, k in itertools.product(SMALL + LARGE, range(8)):
            there = turned_piece(piece, k)
            self.assertEqual(floors_of(there), sorted(turned_grid(grid, k) for grid in floors_of(piece)))
            if k < 4:
                word = turned_word(border_of(piece)[1], k)
                self.assertIn(border_of(there)[1], [begun_at(word, place) for place in range(len(word))])

    def test_moved(self):
        for piece, shift in itertools.product(SMALL[::3] + LARGE, SHIFTS):
            there = moved(piece, shift)
            self.assertEqual(floors_of(there), floors_of(piece))
            for grid in floors_of(piece):
                half, own, by = Laying(piece, grid).place_of((2, 3))
                told = Laying(there, grid).place_of((2 + shift[0], 3 + shift[1]))
                self.assertEqual(told, (half, (own[0] + shift[0], own[1] + shift[1]), by))

    def test_turnings_turned_mirrored_and_moved(self):
        for piece in pieces_up_to(3) + chance_pieces(5, 3, 85) + chance_pieces(6, 2, 86):
            told = turnings_of(piece)
            for k in range(8):
                expected = []
                for grid, centre in told:
                    there = turned_grid(grid, k)
                    expected.append((there, rest_of(there, turned(centre, k))))
                self.assertEqual(sorted(turnings_of(turned_piece(piece, k))), sorted(expected))
            for shift in SHIFTS:
                # What is turned half moves the other way, so the centre moves twice as far.
                expected = []
                for grid, (x, y) in told:
                    expected.append((grid, rest_of(grid, (x + 2 * shift[0], y + 2 * shift[1]))))
                self.assertEqual(sorted(turnings_of(moved(piece, shift))), sorted(expected))

    def test_each_cell_of_a_field_is_covered_just_once_with_half_turns(self):
        for piece in pieces_up_to(3) + chance_pieces(5, 3, 87) + chance_pieces(6, 2, 88):
            for grid, centre in turnings_of(piece)[::2]:
                a, b, d = grid
                both = list(piece) + [(centre[0] - x, centre[1] - y) for x, y in piece]
                covered = {}
                for i, j in itertools.product(range(-60, 61), range(-30, 31)):
                    shift = (i * a + j * b, j * d)
                    if -22 <= shift[0] <= 22 and -22 <= shift[1] <= 22:
                        for cell in moved(tuple(both), shift):
                            covered[cell] = covered.get(cell, 0) + 1
                for cell in itertools.product(range(3), repeat=2):
                    self.assertEqual(covered[cell], 1, (piece, grid, centre))

    def test_with_half_turns_a_floor_or_two_that_meet(self):
        for piece in pieces_up_to(3) + chance_pieces(5, 2, 89):
            for grid, centre in itertools.product(grids_of(2 * len(piece)), ((0, 0), (1, 1), (-2, 5), FAR[1])):
                turning = Turning(piece, grid, centre)
                if turning.is_floor():
                    for cell in ((0, 0), (BIG, -BIG)):
                        half, own, shift = turning.place_of(cell)
                        self.assertEqual(moved((turning.spot(half, own),), shift), (cell,))
                        self.assertIsNotNone(numbers_of(grid, shift))
                else:
                    one, other = [turning.spot(half, own) for half, own in turning.meets()]
                    self.assertIsNotNone(numbers_of(grid, (one[0] - other[0], one[1] - other[1])))


if __name__ == "__main__":
    unittest.main()
