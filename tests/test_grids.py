"""Grids: shifts and rests [15], rests of cells [16], grids made of shifts [17], grids turned [18]."""

import itertools
import random
import unittest

from borderfloor.errors import FloorError, NoGrid
from borderfloor.grids import grid_of, leads_to, numbers_of, rest_of, rests_in, shift_of, turned_grid
from borderfloor.turns import turn_back, turn_behind, turned
from helper import BIG, FAR

GRIDS = [(a, b, d) for a in range(1, 5) for b in range(a) for d in range(1, 4)]
LARGE = (BIG, BIG - 1, BIG - 2)
BOX = list(itertools.product(range(-9, 10), repeat=2))


def small_shifts(grid):
    """All shifts of a small grid that lie near, and some more."""
    a, b, d = grid
    return {(i * a + j * b, j * d) for j in range(-10, 11) for i in range(-50, 51)}


class ShiftsTest(unittest.TestCase):
    def test_how_many_rests(self):
        self.assertEqual(rests_in((1, 0, 1)), 1)
        self.assertEqual(rests_in((3, 2, 5)), 15)
        self.assertEqual(rests_in(LARGE), BIG * (BIG - 2))

    def test_a_step_east_a_lean_and_a_step_north(self):
        self.assertEqual(shift_of((5, 2, 3), 0, 0), (0, 0))
        self.assertEqual(shift_of((5, 2, 3), 1, 0), (5, 0))
        self.assertEqual(shift_of((5, 2, 3), 0, 1), (2, 3))
        self.assertEqual(shift_of((5, 2, 3), 4, 7), (34, 21))
        self.assertEqual(shift_of((5, 2, 3), -4, -7), (-34, -21))
        self.assertEqual(shift_of((5, 2, 3), -1, 2), (-1, 6))

    def test_numbers_of_sixty_figures(self):
        a, b, d = LARGE
        self.assertEqual(shift_of(LARGE, BIG, -BIG), (BIG * a - BIG * b, -BIG * d))
        self.assertEqual(numbers_of(LARGE, shift_of(LARGE, BIG, -BIG)), (BIG, -BIG))
        self.assertEqual(numbers_of((1, 0, 1), (BIG, -BIG)), (BIG, -BIG))
        self.assertEqual(numbers_of((2, 1, 1), (BIG, BIG)), (0, BIG))
        self.assertIsNone(numbers_of((2, 1, 1), (BIG - 1, BIG)))

    def test_the_numbers_of_each_shift(self):
        for grid in GRIDS:
            for i, j in itertools.product(range(-4, 5), repeat=2):
                shift = shift_of(grid, i, j)
                self.assertIs(type(shift), tuple)
                self.assertEqual(numbers_of(grid, shift), (i, j))
                self.assertIs(type(numbers_of(grid, shift)), tuple)

    def test_pairs_that_are_no_shift(self):
        self.assertIsNone(numbers_of((5, 2, 3), (1, 0)))
        self.assertIsNone(numbers_of((5, 2, 3), (0, 1)))
        self.assertIsNone(numbers_of((5, 2, 3), (5, 3)))
        self.assertIsNone(numbers_of((5, 2, 3), (2, -3)))
        self.assertEqual(numbers_of((5, 2, 3), (-2, -3)), (0, -1))
        for grid in GRIDS:
            shifts = small_shifts(grid)
            for pair in BOX:
                self.assertEqual(numbers_of(grid, pair) is not None, pair in shifts, (grid, pair))


class RestsTest(unittest.TestCase):
    def test_some_rests(self):
        self.assertEqual(rest_of((5, 2, 3), (0, 0)), (0, 0))
        self.assertEqual(rest_of((5, 2, 3), (7, 1)), (2, 1))
        self.assertEqual(rest_of((5, 2, 3), (1, 3)), (4, 0))
        self.assertEqual(rest_of((5, 2, 3), (-1, -1)), (1, 2))
        self.assertEqual(leads_to((5, 2, 3), (7, 1)), (5, 0))
        self.assertEqual(leads_to((5, 2, 3), (1, 3)), (-3, 3))
        self.assertEqual(leads_to((5, 2, 3), (-1, -1)), (-2, -3))

    def test_a_cell_that_is_its_own_rest(self):
        for grid in GRIDS + [(7, 3, 9)]:
            for cell in itertools.product(range(grid[0]), range(grid[2])):
                self.assertEqual(rest_of(grid, cell), cell)
                self.assertEqual(leads_to(grid, cell), (0, 0))
        self.assertEqual(rest_of(LARGE, (BIG - 1, BIG - 3)), (BIG - 1, BIG - 3))
        self.assertEqual(rest_of(LARGE, (BIG, 0)), (0, 0))

    def test_each_cell_is_its_rest_moved_by_a_shift(self):
        far = [(x, y) for x in (BIG, -BIG, 10 ** 59 + 7) for y in (BIG, -BIG, 0, -1)]
        for grid in GRIDS + [LARGE, (BIG, 0, 1), (1, 0, BIG), (2, 1, BIG)]:
            for cell in BOX[::3] + far:
                rest = rest_of(grid, cell)
                shift = leads_to(grid, cell)
                self.assertIs(type(rest), tuple)
                self.assertIs(type(shift), tuple)
                self.assertTrue(0 <= rest[0] < grid[0] and 0 <= rest[1] < grid[2])
                self.assertEqual((rest[0] + shift[0], rest[1] + shift[1]), cell)
                i, j = numbers_of(grid, shift)
                self.assertEqual(shift_of(grid, i, j), shift)

    def test_the_same_rest_just_where_one_is_the_other_moved_by_a_shift(self):
        cells = list(itertools.product(range(-3, 4), repeat=2))
        for grid in GRIDS:
            shifts = small_shifts(grid)
            for one, other in itertools.product(cells[::2], cells[::3]):
                alike = rest_of(grid, one) == rest_of(grid, other)
                self.assertEqual(alike, (one[0] - other[0], one[1] - other[1]) in shifts)


class MadeTest(unittest.TestCase):
    def refused(self, shifts):
        with self.subTest(shifts), self.assertRaises(FloorError) as taken:
            grid_of(shifts)
        self.assertIs(type(taken.exception), NoGrid)

    def test_of_its_own_two_steps(self):
        for a, b, d in GRIDS + [LARGE, (BIG, 0, 1), (1, 0, BIG)]:
            self.assertEqual(grid_of([(a, 0), (b, d)]), (a, b, d))
            self.assertIs(type(grid_of([(a, 0), (b, d)])), tuple)

    def test_told_by_hand(self):
        self.assertEqual(grid_of([(1, 0), (0, 1)]), (1, 0, 1))
        self.assertEqual(grid_of([(1, 1), (1, -1)]), (2, 1, 1))
        self.assertEqual(grid_of([(2, 0), (0, 2), (1, 1)]), (2, 1, 1))
        self.assertEqual(grid_of([(4, 0), (6, 0), (0, 3)]), (2, 0, 3))
        self.assertEqual(grid_of([(0, 4), (0, 6), (3, 0)]), (3, 0, 2))
        self.assertEqual(grid_of([(2, 1), (-1, 2)]), (5, 2, 1))
        self.assertEqual(grid_of([(7, 5), (7, 8)]), (21, 14, 1))

    def test_no_shifts_and_nought_alone(self):
        self.refused([])
        self.refused([(0, 0)])
        self.refused([(0, 0)] * 200)

    def test_shifts_on_one_line(self):
        self.refused([(3, 0)])
        self.refused([(0, -5)])
        self.refused([(3, 0), (-4, 0), (0, 0)])
        self.refused([(0, 3), (0, -4)])
        self.refused([(2, 3), (4, 6), (-6, -9)])
        self.refused([(BIG, -BIG), (-1, 1), (5, -5)])
        self.refused([(BIG, BIG - 1), (-BIG, 1 - BIG), (2 * BIG, 2 * BIG - 2)])
        self.refused([(6 * k, -4 * k) for k in range(-100, 100)])
        self.refused([(0, 0), (10 ** 59, 3 * 10 ** 59), (1, 3)])

    def test_just_off_one_line(self):
        self.assertEqual(grid_of([(2, 3), (4, 7)]), (2, 0, 1))
        self.assertEqual(grid_of([(BIG, -BIG), (-1, 1), (5, -4)]), (1, 0, 1))
        self.assertEqual(grid_of([(BIG, 0), (0, BIG)]), (BIG, 0, BIG))

    def test_in_another_order_and_told_twice(self):
        shifts = [(6, 0), (4, 2), (0, 0), (-2, 8), (3, 9)]
        made = grid_of(shifts)
        for other in itertools.permutations(shifts):
            self.assertEqual(grid_of(list(other)), made)
        self.assertEqual(grid_of(shifts * 3), made)
        self.assertEqual(grid_of([shift for shift in shifts for time in range(2)]), made)

    def test_shifts_below_nought(self):
        self.assertEqual(grid_of([(-3, 0), (-1, -2)]), (3, 1, 2))
        self.assertEqual(grid_of([(-3, 0), (1, -2)]), (3, 2, 2))
        self.assertEqual(grid_of([(0, -2), (-3, 0)]), (3, 0, 2))
        for x, y in itertools.product((4, -4), (6, -6)):
            self.assertEqual(grid_of([(x, 0), (0, y)]), (4, 0, 6))

    def test_all_sums_and_no_other(self):
        chance = random.Random(17)
        made = 0
        for number in range(300):
            shifts = [(chance.randint(-6, 6), chance.randint(-6, 6)) for time in range(chance.randint(2, 4))]
            corners = [abs(one[0] * other[1] - one[1] * other[0]) for one in shifts for other in shifts]
            if not any(corners):
                self.refused(shifts)
                continue
            made += 1
            a, b, d = grid = grid_of(shifts)
            self.assertTrue(a >= 1 and d >= 1 and 0 <= b < a)
            for shift in shifts:
                self.assertIsNotNone(numbers_of(grid, shift))
            # The least number of rests that all two-by-two areas allow is their common measure.
            measure = 0
            for corner in corners:
                while corner:
                    measure, corner = corner, measure % corner
            self.assertEqual(rests_in(grid), measure)
        self.assertGreater(made, 200)

    def test_two_hundred_shifts_of_sixty_figures(self):
        chance = random.Random(18)
        grid = (10 ** 20 + 39, 10 ** 19 + 1, 10 ** 21 + 117)
        shifts = []
        for number in range(200):
            shifts.append(shift_of(grid, chance.randint(-(10 ** 38), 10 ** 38), chance.randint(-(10 ** 38), 10 ** 38)))
        self.assertEqual(grid_of(shifts), grid)
        shifts = [(chance.randint(-BIG, BIG), chance.randint(-BIG, BIG)) for number in range(200)]
        self.assertEqual(grid_of(shifts), (1, 0, 1))

    def test_numbers_of_sixty_figures(self):
        made = grid_of([(BIG, 1), (1, -BIG)])
        self.assertEqual(made, (BIG * BIG + 1, BIG, 1))
        self.assertEqual(grid_of([(1, BIG), (0, BIG)]), (1, 0, BIG))

    def test_numbers_of_very_many_figures_told_by_the_program(self):
        shift = (BIG, 1 - BIG)
        for number in range(7):
            shift = shift_of((shift[0], 1, abs(shift[1])), shift[0], -shift[1])
        self.assertGreater(shift[0], 10 ** 5000)
        a, b, d = grid_of([shift, (3, 0), (0, 5)])
        self.assertIn(a * d, (1, 3, 5, 15))
        self.assertIsNotNone(numbers_of((a, b, d), shift))

    def test_the_list_handed_in_stays_as_it_was(self):
        for shifts in ([(3, 0), (-1, 2), (3, 0)], [(0, 0)], [], [(4, 4), (2, 2)]):
            as_it_was = list(shifts)
            try:
                grid_of(shifts)
            except NoGrid:
                pass
            self.assertEqual(shifts, as_it_was)


class TurnedTest(unittest.TestCase):
    def test_told_by_hand(self):
        expected = [(5, 2, 1), (5, 2, 1), (5, 2, 1), (5, 2, 1), (5, 3, 1), (5, 3, 1), (5, 3, 1), (5, 3, 1)]
        self.assertEqual([turned_grid((5, 2, 1), k) for k in range(8)], expected)
        expected = [(4, 0, 3), (3, 0, 4)] * 4
        self.assertEqual([turned_grid((4, 0, 3), k) for k in range(8)], expected)
        expected = [(6, 2, 2), (6, 4, 2), (6, 2, 2), (6, 4, 2), (6, 4, 2), (6, 2, 2), (6, 4, 2), (6, 2, 2)]
        self.assertEqual([turned_grid((6, 2, 2), k) for k in range(8)], expected)
        self.assertEqual([turned_grid((4, 2, 3), k) for k in range(8)], [(4, 2, 3), (6, 3, 2)] * 4)

    def test_its_shifts_are_the_turned_shifts(self):
        for grid, k in itertools.product(GRIDS + [(7, 3, 2), LARGE], range(8)):
            there = turned_grid(grid, k)
            self.assertIs(type(there), tuple)
            self.assertEqual(rests_in(there), rests_in(grid))
            for i, j in itertools.product(range(-3, 4), repeat=2):
                self.assertIsNotNone(numbers_of(there, turned(shift_of(grid, i, j), k)))

    def test_turned_and_turned_back(self):
        for grid, k in itertools.product(GRIDS + [(7, 3, 2), LARGE, (BIG, 5, BIG - 1)], range(8)):
            self.assertEqual(turned_grid(turned_grid(grid, k), turn_back(k)), grid)

    def test_one_turn_behind_another(self):
        for grid, k, j in itertools.product([(7, 3, 2), (5, 2, 1), LARGE], range(8), range(8)):
            self.assertEqual(turned_grid(turned_grid(grid, k), j), turned_grid(grid, turn_behind(k, j)))

    def test_far_cells_keep_their_company(self):
        # Two cells of one rest are turned to two cells of one rest.
        grid = (7, 3, 2)
        for k, shift in itertools.product(range(8), FAR):
            there = turned_grid(grid, k)
            one = rest_of(there, turned(shift, k))
            other = rest_of(there, turned(rest_of(grid, shift), k))
            self.assertEqual(one, other)


if __name__ == "__main__":
    unittest.main()
