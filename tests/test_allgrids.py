"""All grids of a number of rests [19]."""

import unittest

from borderfloor.allgrids import grids_of
from borderfloor.grids import grid_of, rests_in


class AllGridsTest(unittest.TestCase):
    def test_one_rest(self):
        self.assertEqual(grids_of(1), [(1, 0, 1)])

    def test_a_prime(self):
        self.assertEqual(grids_of(2), [(1, 0, 2), (2, 0, 1), (2, 1, 1)])
        self.assertEqual(grids_of(7), [(1, 0, 7)] + [(7, b, 1) for b in range(7)])
        self.assertEqual(grids_of(199), [(1, 0, 199)] + [(199, b, 1) for b in range(199)])

    def test_four_and_twelve(self):
        self.assertEqual(grids_of(4), [(1, 0, 4), (2, 0, 2), (2, 1, 2), (4, 0, 1), (4, 1, 1), (4, 2, 1), (4, 3, 1)])
        expected = [(1, 0, 12), (2, 0, 6), (2, 1, 6), (3, 0, 4), (3, 1, 4), (3, 2, 4)]
        expected += [(4, b, 3) for b in range(4)] + [(6, b, 2) for b in range(6)] + [(12, b, 1) for b in range(12)]
        self.assertEqual(grids_of(12), expected)

    def test_two_hundred(self):
        grids = grids_of(200)
        self.assertEqual(len(grids), 1 + 2 + 4 + 5 + 8 + 10 + 20 + 25 + 40 + 50 + 100 + 200)
        self.assertEqual(grids[0], (1, 0, 200))
        self.assertEqual(grids[-1], (200, 199, 1))
        self.assertIn((40, 39, 5), grids)

    def test_each_once_and_in_order_for_each_number(self):
        for count in range(1, 201):
            grids = grids_of(count)
            self.assertEqual(grids, sorted(set(grids)))
            for a, b, d in grids:
                self.assertTrue(0 <= b < a and a * d == count and d >= 1)
            self.assertEqual(len(grids), sum(a for a in range(1, count + 1) if count % a == 0))

    def test_tuples_of_whole_numbers_that_are_grids(self):
        for grid in grids_of(30):
            self.assertIs(type(grid), tuple)
            self.assertEqual([type(number) for number in grid], [int, int, int])
            self.assertEqual(rests_in(grid), 30)
            self.assertEqual(grid_of([(grid[0], 0), (grid[1], grid[2])]), grid)

    def test_the_told_list_is_the_askers_own(self):
        told = grids_of(6)
        self.assertIs(type(told), list)
        as_it_was = list(told)
        told.append((9, 9, 9))
        del told[0]
        self.assertEqual(grids_of(6), as_it_was)
        grids_of(6).clear()
        self.assertEqual(grids_of(6), as_it_was)


if __name__ == "__main__":
    unittest.main()
