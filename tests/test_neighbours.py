"""The cells across a border, neighbours [25], how a floor parts the border [26], and that partings
and floors are as many [27]."""

import unittest

from borderfloor.allgrids import grids_of
from borderfloor.borders import border_of
from borderfloor.errors import NoFloor, NotAsMany
from borderfloor.layings import Laying, floors_of
from borderfloor.neighbours import across, neighbours_of, parted_by
from borderfloor.partings import grid_by, partings_of, shifts_by, stretches_of
from borderfloor.words import corners_of
from helper import BIG, FAR, chance_pieces, drawn, pieces_up_to, refusal, shifted

ONE = ((0, 0),)
DOMINO = ((0, 0), (1, 0))
BAY = drawn("#.#/###")
TEN = [drawn("##########"), drawn("#####/#####")]
MANY = pieces_up_to(6) + chance_pieces(7, 60, 30) + chance_pieces(8, 60, 31) + chance_pieces(9, 60, 32)
MANY += chance_pieces(10, 60, 33) + TEN
BESIDE = {"e": ((0, 0), (0, -1)), "n": ((-1, 0), (0, 0)), "w": ((-1, -1), (-1, 0)), "s": ((0, -1), (-1, -1))}


class AcrossTest(unittest.TestCase):
    def test_each_letter(self):
        self.assertEqual(across(ONE), [(0, -1), (1, 0), (0, 1), (-1, 0)])
        self.assertEqual(across(((5, -7),)), [(5, -8), (6, -7), (5, -6), (4, -7)])

    def test_in_the_words_order(self):
        self.assertEqual(across(DOMINO), [(0, -1), (1, -1), (2, 0), (1, 1), (0, 1), (-1, 0)])
        expected = [(0, -1), (1, -1), (2, -1), (3, 0), (3, 1), (2, 2), (1, 1), (1, 1), (1, 1), (0, 2), (-1, 1), (-1, 0)]
        self.assertEqual(across(BAY), expected)

    def test_a_cell_outside_beside_the_cell_of_the_piece_within(self):
        for piece in MANY[::3]:
            corner, word = border_of(piece)
            told = across(piece)
            self.assertEqual(len(told), len(word))
            for cell, place, letter in zip(told, corners_of(corner, word), word):
                within, outside = BESIDE[letter]
                self.assertIn((place[0] + within[0], place[1] + within[1]), piece)
                self.assertNotIn(cell, piece)
                self.assertEqual(cell, (place[0] + outside[0], place[1] + outside[1]))

    def test_far_out(self):
        for shift in FAR:
            self.assertEqual(across(shifted(BAY, shift)), list(shifted(across(BAY), shift)))

    def test_the_told_list_is_the_askers_own(self):
        told = across(ONE)
        self.assertIs(type(told), list)
        self.assertIs(type(told[0]), tuple)
        told.clear()
        self.assertEqual(len(across(ONE)), 4)


class NeighboursTest(unittest.TestCase):
    def test_told_by_hand(self):
        self.assertEqual(neighbours_of(ONE, (1, 0, 1)), [(0, -1), (1, 0), (0, 1), (-1, 0)])
        self.assertEqual(neighbours_of(DOMINO, (2, 0, 1)), [(0, -1), (0, -1), (2, 0), (0, 1), (0, 1), (-2, 0)])
        self.assertEqual(neighbours_of(DOMINO, (2, 1, 1)), [(-1, -1), (1, -1), (2, 0), (1, 1), (-1, 1), (-2, 0)])

    def test_the_shift_by_which_the_piece_lies_across_each_letter(self):
        for piece in MANY[::2]:
            for grid in floors_of(piece):
                told = neighbours_of(piece, grid)
                self.assertIs(type(told), list)
                laying = Laying(piece, grid)
                for shift, cell in zip(told, across(piece), strict=True):
                    self.assertIs(type(shift), tuple)
                    self.assertNotEqual(shift, (0, 0))
                    self.assertIn(cell, shifted(piece, shift))
                    self.assertEqual(laying.place_of(cell)[2], shift)

    def test_wherever_the_piece_lies(self):
        for shift in FAR:
            self.assertEqual(neighbours_of(shifted(DOMINO, shift), (2, 1, 1)), neighbours_of(DOMINO, (2, 1, 1)))
            self.assertEqual(parted_by(shifted(DOMINO, shift), (2, 1, 1)), (0, 1, 2))

    def test_the_told_list_is_the_askers_own(self):
        neighbours_of(ONE, (1, 0, 1)).clear()
        self.assertEqual(len(neighbours_of(ONE, (1, 0, 1))), 4)


class RefusedTest(unittest.TestCase):
    def test_a_grid_with_another_number_of_rests(self):
        for ask in (neighbours_of, parted_by):
            for piece, grid in ((ONE, (2, 0, 1)), (DOMINO, (1, 0, 1)), (BAY, (2, 1, 2)), (BAY, (BIG, 7, BIG))):
                self.assertIs(refusal(ask, piece, grid), NotAsMany)

    def test_a_grid_that_lays_no_floor(self):
        for ask in (neighbours_of, parted_by):
            self.assertIs(refusal(ask, DOMINO, (1, 0, 2)), NoFloor)
            for grid in grids_of(5):
                self.assertIs(refusal(ask, BAY, grid), NoFloor)
            for piece in pieces_up_to(4):
                for grid in grids_of(len(piece)):
                    self.assertIs(refusal(ask, piece, grid), None if grid in floors_of(piece) else NoFloor)


class PartedTest(unittest.TestCase):
    def test_told_by_hand(self):
        self.assertEqual(parted_by(ONE, (1, 0, 1)), (0, 1))
        self.assertEqual(parted_by(DOMINO, (2, 0, 1)), (0, 2))
        self.assertEqual(parted_by(DOMINO, (2, 1, 1)), (0, 1, 2))
        self.assertEqual(parted_by(((0, 0), (0, 1)), (1, 0, 2)), (0, 1))

    def test_the_cuts_are_a_parting_and_its_grid_is_the_grid(self):
        for piece in MANY:
            word = border_of(piece)[1]
            for grid in floors_of(piece):
                cuts = parted_by(piece, grid)
                self.assertIs(type(cuts), tuple)
                self.assertIn(cuts, partings_of(word))
                self.assertEqual(grid_by(word, cuts), grid)
                # Not each piece has a cut at 0: the first stretch begins at the first cut.
                neighbours = neighbours_of(piece, grid)
                expected = []
                for shift, stretch in zip(shifts_by(word, cuts), stretches_of(word, cuts)):
                    expected.extend([shift] * len(stretch))
                self.assertEqual(neighbours[cuts[0]:cuts[0] + len(word) // 2], expected)

    def test_the_places_where_the_neighbour_is_another_one(self):
        for piece in MANY[::4]:
            for grid in floors_of(piece):
                shifts = neighbours_of(piece, grid)
                ahead = shifts[-1:] + shifts[:-1]
                places = [place for place in range(len(shifts)) if shifts[place] != ahead[place]]
                self.assertEqual(parted_by(piece, grid), tuple(place for place in places if 2 * place < len(shifts)))

    def test_some_floors_have_no_cut_at_nought(self):
        firsts = {parted_by(piece, grid)[0] for piece in MANY for grid in floors_of(piece)}
        self.assertIn(0, firsts)
        self.assertGreater(len(firsts), 1)


class AsManyTest(unittest.TestCase):
    def test_partings_and_floors_are_as_many(self):
        without = 0
        for piece in MANY:
            word = border_of(piece)[1]
            floors = floors_of(piece)
            partings = partings_of(word)
            self.assertEqual(len(partings), len(floors))
            self.assertEqual(sorted(grid_by(word, cuts) for cuts in partings), floors)
            without += not floors
        self.assertGreater(without, 50)
        self.assertEqual([len(floors_of(piece)) for piece in TEN], [10, 6])


if __name__ == "__main__":
    unittest.main()
