"""Cells: their order, their neighbours, sums and differences [4], and what 2 says of them."""

import functools
import itertools
import random
import unittest

from borderfloor.cells import added, around, before, in_order, taken

BIG = 10 ** 60 - 1


class BeforeTest(unittest.TestCase):
    def test_a_less_y_comes_first_whatever_the_x(self):
        self.assertIs(before((5, 1), (-5, 2)), True)
        self.assertIs(before((-5, 2), (5, 1)), False)
        self.assertIs(before((0, -3), (0, -2)), True)
        self.assertIs(before((0, -2), (0, -3)), False)

    def test_alike_in_y_a_less_x_comes_first(self):
        self.assertIs(before((1, 4), (2, 4)), True)
        self.assertIs(before((2, 4), (1, 4)), False)
        self.assertIs(before((-2, -4), (-1, -4)), True)
        self.assertIs(before((-1, -4), (-2, -4)), False)

    def test_no_cell_comes_before_itself(self):
        for cell in ((0, 0), (3, -7), (BIG, -BIG)):
            self.assertIs(before(cell, cell), False)
        self.assertIs(before((10 ** 30, 1), (10 ** 30, 1)), False)

    def test_numbers_of_sixty_figures(self):
        self.assertIs(before((BIG, BIG - 1), (-BIG, BIG)), True)
        self.assertIs(before((-BIG, BIG), (BIG, BIG - 1)), False)
        self.assertIs(before((BIG - 1, BIG), (BIG, BIG)), True)
        self.assertIs(before((BIG, BIG), (BIG - 1, BIG)), False)
        self.assertIs(before((-BIG, -BIG), (1 - BIG, -BIG)), True)
        self.assertIs(before((BIG, -BIG), (-BIG, 1 - BIG)), True)

    def test_of_two_unlike_cells_just_one_comes_before_the_other(self):
        cells = list(itertools.product(range(-2, 3), repeat=2))
        for one, other in itertools.product(cells, repeat=2):
            told = (before(one, other), before(other, one))
            expected = (one[1] < other[1] or (one[1] == other[1] and one[0] < other[0]))
            self.assertIs(told[0], expected)
            self.assertEqual(told.count(True), 0 if one == other else 1)


class InOrderTest(unittest.TestCase):
    def test_ordinary(self):
        self.assertEqual(in_order([(1, 1), (0, 1), (2, 0), (-1, 2)]), [(2, 0), (0, 1), (1, 1), (-1, 2)])
        self.assertEqual(in_order([(0, 0), (-1, 0), (0, -1), (-1, -1)]), [(-1, -1), (0, -1), (-1, 0), (0, 0)])

    def test_no_cell_and_one_cell(self):
        self.assertEqual(in_order([]), [])
        self.assertEqual(in_order([(4, -4)]), [(4, -4)])

    def test_each_cell_as_often_as_told(self):
        some = [(1, 0), (0, 0), (1, 0), (0, 1), (0, 0), (1, 0)]
        self.assertEqual(in_order(some), [(0, 0), (0, 0), (1, 0), (1, 0), (1, 0), (0, 1)])
        self.assertEqual(in_order([(2, 2), (2, 2)]), [(2, 2), (2, 2)])

    def test_numbers_of_sixty_figures(self):
        some = [(BIG, BIG), (0, BIG), (-BIG, BIG), (BIG, -BIG), (BIG, 0)]
        self.assertEqual(in_order(some), [(BIG, -BIG), (BIG, 0), (-BIG, BIG), (0, BIG), (BIG, BIG)])

    def test_the_list_handed_in_stays_and_a_new_one_is_told(self):
        for some in ([(1, 1), (0, 0), (1, 1)], [(0, 0), (1, 0), (0, 1)], [(0, 0)], []):
            with self.subTest(some):
                as_it_was = list(some)
                told = in_order(some)
                self.assertIs(type(told), list)
                self.assertIsNot(told, some)
                self.assertEqual(some, as_it_was)
                expected = list(told)
                some.append((9, 9))
                self.assertEqual(told, expected)
                told.append((8, 8))
                self.assertEqual(some, as_it_was + [(9, 9)])

    def test_what_is_done_to_a_told_list_changes_no_later_one(self):
        some = [(1, 0), (0, 0)]
        in_order(some).clear()
        self.assertEqual(in_order(some), [(0, 0), (1, 0)])

    def test_two_hundred_cells(self):
        chance = random.Random(4)
        some = [(chance.randint(-9, 9), chance.randint(-9, 9)) for number in range(200)]
        by_pairs = functools.cmp_to_key(lambda one, other: -1 if before(one, other) else int(before(other, one)))
        self.assertEqual(in_order(some), sorted(some, key=by_pairs))
        self.assertEqual(in_order(in_order(some)), in_order(some))


class AroundTest(unittest.TestCase):
    def test_eastern_northern_western_southern(self):
        self.assertEqual(around((0, 0)), [(1, 0), (0, 1), (-1, 0), (0, -1)])
        self.assertEqual(around((3, -7)), [(4, -7), (3, -6), (2, -7), (3, -8)])

    def test_far_out(self):
        self.assertEqual(
            around((BIG, -BIG)), [(BIG + 1, -BIG), (BIG, 1 - BIG), (BIG - 1, -BIG), (BIG, -BIG - 1)]
        )

    def test_a_new_list_each_time(self):
        told = around((2, 2))
        self.assertIs(type(told), list)
        told.clear()
        self.assertEqual(around((2, 2)), [(3, 2), (2, 3), (1, 2), (2, 1)])


class SumsTest(unittest.TestCase):
    def test_added(self):
        self.assertEqual(added((1, 2), (30, 40)), (31, 42))
        self.assertEqual(added((-1, 2), (3, -40)), (2, -38))
        self.assertEqual(added((5, 6), (0, 0)), (5, 6))
        self.assertEqual(added((BIG, -BIG), (1, -1)), (BIG + 1, -BIG - 1))

    def test_taken(self):
        self.assertEqual(taken((31, 42), (1, 2)), (30, 40))
        self.assertEqual(taken((-1, 2), (3, -40)), (-4, 42))
        self.assertEqual(taken((5, 6), (5, 6)), (0, 0))
        self.assertEqual(taken((BIG, -BIG), (-BIG, BIG)), (2 * BIG, -2 * BIG))

    def test_taking_away_what_was_added(self):
        for one, other in itertools.permutations([(0, 0), (7, -3), (-BIG, BIG), (1, BIG)], 2):
            self.assertEqual(taken(added(one, other), other), one)
            self.assertEqual(added(taken(one, other), other), one)

    def test_pairs_are_tuples(self):
        self.assertIs(type(added((1, 2), (3, 4))), tuple)
        self.assertIs(type(taken((1, 2), (3, 4))), tuple)
        for cell in around((1, 2)):
            self.assertIs(type(cell), tuple)


if __name__ == "__main__":
    unittest.main()
