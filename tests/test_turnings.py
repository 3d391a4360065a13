"""Half turns: cells turned [28], turnings and what they tell [29], the turnings of a piece [30]."""

import itertools
import random
import unittest

from borderfloor.allgrids import grids_of
from borderfloor.errors import NoFloor, NotAsMany, TooMany
from borderfloor.grids import numbers_of
from borderfloor.layings import Laying
from borderfloor.turnings import Turning, half_turned, turnings_of
from helper import BIG, FAR, chance_pieces, differ_by_shift, drawn, pieces_up_to, pieces_with, refusal, shifted

ONE = ((0, 0),)
DOMINO = ((0, 0), (1, 0))
BAY = drawn("#.#/###")
BENT = drawn("..#/###")
SIX = drawn("######")
SEVEN = drawn("#######")


def turned_about(cell, centre):
    return (centre[0] - cell[0], centre[1] - cell[1])


def things_of(piece, centre):
    """All that is laid, with its spot."""
    things = [((False, own), own) for own in piece]
    return things + [((True, own), turned_about(own, centre)) for own in piece]


def any_meet(piece, grid, centre):
    spots = [spot for thing, spot in things_of(piece, centre)]
    return any(differ_by_shift(grid, one, other) for one, other in itertools.combinations(spots, 2))


class HalfTurnedTest(unittest.TestCase):
    def test_ordinary(self):
        self.assertEqual(half_turned((1, 2), (10, 20)), (9, 18))
        self.assertEqual(half_turned((0, 0), (0, 0)), (0, 0))
        self.assertEqual(half_turned((3, 4), (6, 8)), (3, 4))

    def test_below_nought_and_of_many_figures(self):
        self.assertEqual(half_turned((-1, -2), (-10, 20)), (-9, 22))
        self.assertEqual(half_turned((BIG, -BIG), (-BIG, BIG)), (-2 * BIG, 2 * BIG))
        far = 10 ** 6000
        self.assertTrue(half_turned((far, -far), (1, 2)) == (1 - far, 2 + far))

    def test_twice_and_the_sum(self):
        for cell, centre in itertools.product(((2, -5), (BIG, 7), (0, 0)), ((3, 3), (-BIG, 1), (0, -1))):
            there = half_turned(cell, centre)
            self.assertIs(type(there), tuple)
            self.assertEqual(half_turned(there, centre), cell)
            self.assertEqual((cell[0] + there[0], cell[1] + there[1]), centre)


class MadeTest(unittest.TestCase):
    def test_its_fields_and_its_base(self):
        turning = Turning(DOMINO, (4, 1, 1), (3, 0))
        self.assertIsInstance(turning, Laying)
        self.assertEqual((turning.piece, turning.grid, turning.centre), (DOMINO, (4, 1, 1), (3, 0)))
        other = Turning(centre=(-7, BIG), grid=(2, 0, 1), piece=ONE)
        self.assertEqual((other.piece, other.grid, other.centre), (ONE, (2, 0, 1), (-7, BIG)))
        self.assertEqual(turning.centre, (3, 0))

    def test_six_and_seven_cells(self):
        self.assertIs(refusal(Turning, SIX, (12, 0, 1), (11, 0)), None)
        self.assertIs(refusal(Turning, SEVEN, (14, 0, 1), (13, 0)), TooMany)
        self.assertIs(refusal(Turning, drawn("##########"), (20, 0, 1), (0, 0)), TooMany)

    def test_a_grid_with_another_number_of_rests(self):
        for grid in ((2, 0, 1), (3, 1, 1), (5, 0, 1), (1, 0, 1), (2, 1, 3), (BIG, 4, BIG), (10 ** 2000, 0, 1)):
            self.assertIs(refusal(Turning, DOMINO, grid, (0, 0)), NotAsMany)
        for piece in (ONE, DOMINO, SIX):
            self.assertIs(refusal(Turning, piece, (len(piece), 0, 1), (0, 0)), NotAsMany)

    def test_both_refusals_due(self):
        self.assertIs(refusal(Turning, SEVEN, (7, 0, 1), (0, 0)), TooMany)
        self.assertIs(refusal(Turning, SEVEN, (1, 0, 1), (BIG, 0)), TooMany)

    def test_what_is_laid(self):
        expected = [(False, (0, 0)), (False, (1, 0)), (True, (0, 0)), (True, (1, 0))]
        self.assertEqual(Turning(DOMINO, (4, 1, 1), (3, 0)).laid(), expected)
        expected = [(half, own) for half in (False, True) for own in BAY]
        self.assertEqual(Turning(BAY, (5, 0, 2), (9, -9)).laid(), expected)

    def test_the_told_list_is_the_askers_own(self):
        turning = Turning(DOMINO, (4, 1, 1), (3, 0))
        told = turning.laid()
        self.assertIs(type(told), list)
        for half, own in told:
            self.assertIs(type(half), bool)
        told.clear()
        self.assertEqual(len(turning.laid()), 4)
        self.assertIs(turning.is_floor(), True)

    def test_spots(self):
        turning = Turning(BENT, (8, 0, 1), (5, -3))
        for own in BENT:
            self.assertEqual(turning.spot(False, own), own)
            self.assertEqual(turning.spot(True, own), turned_about(own, (5, -3)))
        far = Turning(shifted(ONE, FAR[1]), (2, 0, 1), (BIG, BIG))
        self.assertEqual(far.spot(True, FAR[1]), (2 * BIG, 0))


class MeetsTest(unittest.TestCase):
    def test_told_by_hand(self):
        self.assertIs(Turning(ONE, (2, 0, 1), (1, 0)).is_floor(), True)
        self.assertIsNone(Turning(ONE, (2, 0, 1), (1, 0)).meets())
        turning = Turning(ONE, (2, 0, 1), (0, 0))
        self.assertIs(turning.is_floor(), False)
        self.assertEqual(set(turning.meets()), {(False, (0, 0)), (True, (0, 0))})
        self.assertIs(Turning(DOMINO, (4, 0, 1), (3, 0)).is_floor(), True)
        self.assertIs(Turning(DOMINO, (4, 0, 1), (1, 0)).is_floor(), False)
        # The bay lays no floor by shifts alone, but it does with half turns.
        self.assertIs(Turning(BAY, *turnings_of(BAY)[0]).is_floor(), True)

    def test_two_unlike_things_laid_that_meet_or_none(self):
        floors = 0
        for piece in pieces_up_to(3) + chance_pieces(5, 6, 40) + [BAY, BENT]:
            centres = [(0, 0), (1, 0), (2, 3), (-4, 5), (BIG, -BIG)]
            for grid, centre in itertools.product(grids_of(2 * len(piece)), centres):
                turning = Turning(piece, grid, centre)
                pair = turning.meets()
                self.assertEqual(pair is not None, any_meet(piece, grid, centre))
                self.assertIs(turning.is_floor(), pair is None)
                floors += pair is None
                if pair is not None:
                    self.assertIs(type(pair), tuple)
                    one, other = pair
                    self.assertNotEqual(one, other)
                    spots = dict(things_of(piece, centre))
                    self.assertTrue(differ_by_shift(grid, spots[one], spots[other]))
        self.assertGreater(floors, 20)


class PlacesTest(unittest.TestCase):
    def test_not_turned_and_turned(self):
        turning = Turning(DOMINO, (4, 1, 1), (3, 0))
        self.assertEqual(turning.place_of((0, 0)), (False, (0, 0), (0, 0)))
        self.assertEqual(turning.place_of((1, 0)), (False, (1, 0), (0, 0)))
        self.assertEqual(turning.place_of((2, 0)), (True, (1, 0), (0, 0)))
        self.assertEqual(turning.place_of((3, 0)), (True, (0, 0), (0, 0)))
        self.assertEqual(turning.place_of((100, 5)), (True, (0, 0), (97, 5)))
        self.assertEqual(turning.place_of((-1, -2)), (False, (1, 0), (-2, -2)))

    def test_each_cell_near_and_far_is_covered_just_once(self):
        cells = list(itertools.product(range(-3, 4), repeat=2)) + list(FAR)
        cells += [(x + BIG, y - BIG) for x, y in itertools.product(range(3), repeat=2)]
        halves = {}
        for piece in pieces_up_to(3) + [BAY, BENT] + chance_pieces(6, 3, 41):
            for grid, centre in turnings_of(piece)[::3]:
                turning = Turning(piece, grid, centre)
                spots = things_of(piece, centre)
                for cell in cells[::2]:
                    told = turning.place_of(cell)
                    self.assertIs(type(told), tuple)
                    half, own, shift = told
                    self.assertIs(type(half), bool)
                    halves[half] = True
                    self.assertIsNotNone(numbers_of(grid, shift))
                    spot = turning.spot(half, own)
                    self.assertEqual((spot[0] + shift[0], spot[1] + shift[1]), cell)
                    fits = [thing for thing, there in spots if differ_by_shift(grid, cell, there)]
                    self.assertEqual(fits, [(half, own)])
        self.assertEqual(len(halves), 2)

    def test_a_piece_and_a_centre_far_out(self):
        piece = shifted(DOMINO, (BIG, -BIG))
        turning = Turning(piece, (4, 1, 1), (3 - BIG, 7))
        self.assertIs(turning.is_floor(), not any_meet(piece, (4, 1, 1), (3 - BIG, 7)))
        centre = (3 + 2 * BIG, -2 * BIG)
        turning = Turning(piece, (4, 1, 1), centre)
        self.assertEqual(turning.place_of((BIG + 3, -BIG)), (True, (BIG, -BIG), (0, 0)))

    def test_of_no_floor(self):
        turning = Turning(DOMINO, (4, 0, 1), (1, 0))
        for cell in ((0, 0), (BIG, -BIG)):
            self.assertIs(refusal(turning.place_of, cell), NoFloor)
        self.assertIsNotNone(turning.meets())

    def test_asked_in_any_order_and_again(self):
        chance = random.Random(29)
        for centre in ((3, 0), (1, 0)):
            first = Turning(DOMINO, (4, 1, 1), centre)
            expected = (first.is_floor(), refusal(first.place_of, (9, 9)), first.laid())
            turning = Turning(DOMINO, (4, 1, 1), centre)
            for number in range(20):
                asked = chance.randint(0, 3)
                if asked == 0:
                    self.assertIs(turning.is_floor(), expected[0])
                if asked == 1:
                    self.assertIs(refusal(turning.place_of, (9, 9)), expected[1])
                if asked == 2:
                    self.assertEqual(turning.laid(), expected[2])
                if asked == 3:
                    self.assertIs(turning.meets() is None, expected[0])


class TurningsTest(unittest.TestCase):
    def test_told_by_hand(self):
        self.assertEqual(turnings_of(ONE), [((1, 0, 2), (0, 1)), ((2, 0, 1), (1, 0)), ((2, 1, 1), (1, 0))])
        expected = [((2, b, 2), (x, 1)) for b in range(2) for x in range(2)]
        expected += [((4, b, 1), (3, 0)) for b in range(4)]
        self.assertEqual(turnings_of(DOMINO), expected)

    def test_all_those_that_are_floors_in_their_order(self):
        for piece in pieces_up_to(4) + chance_pieces(5, 5, 42) + chance_pieces(6, 3, 43):
            expected = []
            for grid in grids_of(2 * len(piece)):
                for y, x in itertools.product(range(grid[2]), range(grid[0])):
                    if not any_meet(piece, grid, (x, y)):
                        expected.append((grid, (x, y)))
            self.assertEqual(turnings_of(piece), expected)

    def test_centres_of_one_grid_in_the_order_of_cells(self):
        centres = [centre for grid, centre in turnings_of(drawn("##/##")) if grid == (4, 0, 2)]
        self.assertEqual(centres, sorted(centres, key=lambda cell: (cell[1], cell[0])))
        self.assertGreater(len(centres), 1)
        of_several_rows = 0
        for piece in pieces_with(4):
            told = turnings_of(piece)
            ranks = [(grid, centre[1], centre[0]) for grid, centre in told]
            self.assertEqual(ranks, sorted(ranks))
            rows = {}
            for grid, centre in told:
                rows.setdefault(grid, set()).add(centre[1])
            of_several_rows += any(len(ys) > 1 for ys in rows.values())
        self.assertGreater(of_several_rows, 0)

    def test_each_piece_of_up_to_five_cells_has_some(self):
        for piece in pieces_up_to(5):
            self.assertNotEqual(turnings_of(piece), [])

    def test_more_than_six_cells(self):
        self.assertNotEqual(turnings_of(SIX), [])
        self.assertIs(refusal(turnings_of, SEVEN), TooMany)
        self.assertIs(refusal(turnings_of, drawn("#####/#####")), TooMany)

    def test_moved_far_out(self):
        for shift in FAR:
            there = shifted(DOMINO, shift)
            for grid, centre in turnings_of(there):
                self.assertFalse(any_meet(there, grid, centre))
            self.assertEqual(len(turnings_of(there)), len(turnings_of(DOMINO)))

    def test_the_told_list_is_the_askers_own(self):
        told = turnings_of(ONE)
        self.assertIs(type(told), list)
        for pair in told:
            self.assertIs(type(pair), tuple)
            self.assertEqual([type(part) for part in pair], [tuple, tuple])
        told.clear()
        self.assertEqual(len(turnings_of(ONE)), 3)


if __name__ == "__main__":
    unittest.main()
