"""Layings of a piece by a grid [20], what they tell [21], and the floors of a piece [22]."""

import itertools
import random
import unittest

from borderfloor.allgrids import grids_of
from borderfloor.errors import FloorError, NoFloor, NotAsMany
from borderfloor.grids import numbers_of, shift_of
from borderfloor.layings import Laying, floors_of
from helper import BIG, FAR, chance_pieces, differ_by_shift, drawn, pieces_up_to, pieces_with, shifted

ONE = ((0, 0),)
LEANING = drawn("##./.##")
DOMINO = ((0, 0), (1, 0))
MANY = pieces_up_to(5) + chance_pieces(6, 12, 20) + chance_pieces(8, 12, 21) + chance_pieces(10, 12, 22)


def any_meet(piece, grid):
    return any(differ_by_shift(grid, one, other) for one, other in itertools.combinations(piece, 2))


class MadeTest(unittest.TestCase):
    def refused(self, piece, grid):
        with self.assertRaises(FloorError) as taken:
            Laying(piece, grid)
        self.assertIs(type(taken.exception), NotAsMany)

    def test_its_fields(self):
        laying = Laying(LEANING, (4, 1, 1))
        self.assertEqual(laying.piece, LEANING)
        self.assertEqual(laying.grid, (4, 1, 1))
        self.assertEqual(Laying(grid=(2, 0, 1), piece=DOMINO).grid, (2, 0, 1))

    def test_each_object_has_its_own(self):
        one = Laying(DOMINO, (2, 0, 1))
        other = Laying(ONE, (1, 0, 1))
        self.assertEqual((one.piece, one.grid), (DOMINO, (2, 0, 1)))
        self.assertEqual((other.piece, other.grid), (ONE, (1, 0, 1)))

    def test_a_grid_with_another_number_of_rests(self):
        for grid in ((1, 0, 1), (3, 0, 1), (1, 0, 3), (5, 2, 1), (2, 0, 4), (8, 3, 1)):
            self.refused(LEANING, grid)
        self.refused(ONE, (2, 0, 1))
        self.refused(tuple((x, 0) for x in range(10)), (11, 0, 1))

    def test_a_grid_with_very_many_rests(self):
        for grid in ((BIG, BIG - 1, BIG), (BIG, 0, 1), (1, 0, BIG), (10 ** 2000, 7, 10 ** 2000)):
            self.refused(LEANING, grid)

    def test_a_laying_that_is_no_floor_is_not_refused(self):
        self.assertIs(Laying(LEANING, (4, 2, 1)).is_floor(), False)

    def test_what_is_laid(self):
        self.assertEqual(Laying(ONE, (1, 0, 1)).laid(), [(False, (0, 0))])
        expected = [(False, (1, 0)), (False, (2, 0)), (False, (0, 1)), (False, (1, 1))]
        self.assertEqual(Laying(LEANING, (4, 1, 1)).laid(), expected)
        self.assertEqual(Laying(LEANING, (4, 2, 1)).laid(), expected)

    def test_the_told_list_is_the_askers_own(self):
        laying = Laying(DOMINO, (2, 1, 1))
        told = laying.laid()
        self.assertIs(type(told), list)
        self.assertIs(type(told[0]), tuple)
        told.clear()
        self.assertEqual(laying.laid(), [(False, (0, 0)), (False, (1, 0))])
        self.assertIs(laying.is_floor(), True)
        self.assertEqual(laying.place_of((1, 0)), (False, (1, 0), (0, 0)))

    def test_spots(self):
        laying = Laying(LEANING, (4, 1, 1))
        for own in LEANING:
            self.assertEqual(laying.spot(False, own), own)


class MeetsTest(unittest.TestCase):
    def test_one_cell(self):
        laying = Laying(ONE, (1, 0, 1))
        self.assertIsNone(laying.meets())
        self.assertIs(laying.is_floor(), True)

    def test_two_cells(self):
        self.assertIsNone(Laying(DOMINO, (2, 0, 1)).meets())
        self.assertIsNone(Laying(DOMINO, (2, 1, 1)).meets())
        self.assertIn(
            Laying(DOMINO, (1, 0, 2)).meets(),
            [((False, (0, 0)), (False, (1, 0))), ((False, (1, 0)), (False, (0, 0)))],
        )

    def test_two_unlike_things_laid_that_meet_or_none(self):
        for piece in MANY:
            for shift in ((0, 0), (-5, 3), FAR[1]):
                there = shifted(piece, shift)
                for grid in grids_of(len(piece)):
                    laying = Laying(there, grid)
                    pair = laying.meets()
                    self.assertEqual(pair is not None, any_meet(there, grid))
                    self.assertIs(laying.is_floor(), pair is None)
                    if pair is not None:
                        self.assertIs(type(pair), tuple)
                        one, other = pair
                        self.assertNotEqual(one, other)
                        self.assertIn(one, laying.laid())
                        self.assertIn(other, laying.laid())
                        self.assertTrue(differ_by_shift(grid, one[1], other[1]))

    def test_two_that_meet_over_a_shift_of_the_lean(self):
        # The first and the last cell of the bent piece differ by (2, 1), which leans.
        piece = drawn("..#/###")
        self.assertIs(Laying(piece, (4, 2, 1)).is_floor(), False)
        one, other = Laying(piece, (4, 2, 1)).meets()
        self.assertEqual({one, other}, {(False, (0, 0)), (False, (2, 1))})


class PlacesTest(unittest.TestCase):
    def test_the_only_cell_and_the_only_shift(self):
        laying = Laying(ONE, (1, 0, 1))
        self.assertEqual(laying.place_of((0, 0)), (False, (0, 0), (0, 0)))
        self.assertEqual(laying.place_of((-3, 8)), (False, (0, 0), (-3, 8)))
        laying = Laying(DOMINO, (2, 1, 1))
        self.assertEqual(laying.place_of((0, 0)), (False, (0, 0), (0, 0)))
        self.assertEqual(laying.place_of((0, 1)), (False, (1, 0), (-1, 1)))
        self.assertEqual(laying.place_of((-4, -3)), (False, (1, 0), (-5, -3)))
        laying = Laying(((7, 7),), (1, 0, 1))
        self.assertEqual(laying.place_of((0, 0)), (False, (7, 7), (-7, -7)))

    def test_each_cell_near_and_far_is_covered_just_once(self):
        cells = list(itertools.product(range(-4, 5), repeat=2))
        cells += [(x + far[0], y + far[1]) for far in FAR for x, y in itertools.product(range(2), repeat=2)]
        floors = 0
        for piece in MANY:
            for grid in grids_of(len(piece)):
                if any_meet(piece, grid):
                    continue
                floors += 1
                laying = Laying(piece, grid)
                for cell in cells[::4 if len(piece) < 6 else 9]:
                    told = laying.place_of(cell)
                    self.assertIs(type(told), tuple)
                    half, own, shift = told
                    self.assertIs(half, False)
                    self.assertIn(own, piece)
                    self.assertIs(type(shift), tuple)
                    self.assertEqual((own[0] + shift[0], own[1] + shift[1]), cell)
                    self.assertIsNotNone(numbers_of(grid, shift))
                    fits = [other for other in piece if differ_by_shift(grid, cell, other)]
                    self.assertEqual(fits, [own])
        self.assertGreater(floors, 60)

    def test_laid_by_each_shift(self):
        piece = shifted(drawn(".#./###/.#."), (BIG, -BIG))
        laying = Laying(piece, (5, 2, 1))
        for i, j in ((0, 0), (1, 0), (-3, 7), (BIG, BIG), (-BIG, 5)):
            shift = shift_of((5, 2, 1), i, j)
            for own in piece:
                cell = (own[0] + shift[0], own[1] + shift[1])
                self.assertEqual(laying.place_of(cell), (False, own, shift))

    def test_of_no_floor(self):
        for piece, grid in ((DOMINO, (1, 0, 2)), (LEANING, (4, 2, 1)), (drawn("#.#/###"), (5, 1, 1))):
            laying = Laying(piece, grid)
            for cell in ((0, 0), piece[0], (BIG, -BIG), (-1, -1)):
                with self.assertRaises(FloorError) as taken:
                    laying.place_of(cell)
                self.assertIs(type(taken.exception), NoFloor)
                self.assertIs(laying.is_floor(), False)
                self.assertIsNotNone(laying.meets())

    def test_asked_in_any_order_and_again(self):
        chance = random.Random(21)
        asks = {
            "meets": lambda laying: laying.meets() is None,
            "is_floor": lambda laying: laying.is_floor(),
            "laid": lambda laying: laying.laid(),
            "place": lambda laying: self.place_or_none(laying),
        }
        for piece, grid in ((LEANING, (4, 1, 1)), (LEANING, (4, 2, 1)), (DOMINO, (2, 1, 1)), (ONE, (1, 0, 1))):
            expected = {name: ask(Laying(piece, grid)) for name, ask in asks.items()}
            laying = Laying(piece, grid)
            for number in range(30):
                name = chance.choice(sorted(asks))
                self.assertEqual(asks[name](laying), expected[name])

    def place_or_none(self, laying):
        try:
            return laying.place_of((3, -5))
        except NoFloor:
            return None


class FloorsTest(unittest.TestCase):
    def test_one_floor_several_and_none(self):
        self.assertEqual(floors_of(ONE), [(1, 0, 1)])
        self.assertEqual(floors_of(DOMINO), [(2, 0, 1), (2, 1, 1)])
        self.assertEqual(floors_of(((0, 0), (0, 1))), [(1, 0, 2), (2, 1, 1)])
        self.assertEqual(floors_of(drawn(".#./###/.#.")), [(5, 2, 1), (5, 3, 1)])
        self.assertEqual(floors_of(drawn("#.#/###")), [])
        self.assertEqual(floors_of(drawn("##/##")), [(2, 0, 2), (2, 1, 2), (4, 2, 1)])
        self.assertEqual(floors_of(drawn("####")), [(4, 0, 1), (4, 1, 1), (4, 2, 1), (4, 3, 1)])

    def test_ten_cells(self):
        self.assertEqual(floors_of(drawn("##########")), [(10, b, 1) for b in range(10)])
        self.assertEqual(len(floors_of(drawn("#####/#####"))), 6)

    def test_as_found_by_looking_at_each_two_cells(self):
        for piece in pieces_up_to(6) + chance_pieces(9, 20, 23) + chance_pieces(10, 20, 24):
            expected = [grid for grid in grids_of(len(piece)) if not any_meet(piece, grid)]
            self.assertEqual(floors_of(piece), expected)

    def test_how_many_pieces_have_how_many(self):
        counts = [len(floors_of(piece)) for piece in pieces_with(5)]
        self.assertEqual({number: counts.count(number) for number in set(counts)}, {0: 16, 1: 40, 2: 5, 5: 2})

    def test_moved_far_out(self):
        for piece in (LEANING, DOMINO, drawn("#.#/###"), drawn(".#./###/.#."), drawn("##/##")):
            for shift in ((1, 0), (-3, 5)) + FAR:
                self.assertEqual(floors_of(shifted(piece, shift)), floors_of(piece))

    def test_the_told_list_is_the_askers_own(self):
        told = floors_of(DOMINO)
        self.assertIs(type(told), list)
        self.assertIs(type(told[0]), tuple)
        told.clear()
        self.assertEqual(floors_of(DOMINO), [(2, 0, 1), (2, 1, 1)])


if __name__ == "__main__":
    unittest.main()
