"""Windows of floors [31]."""

import itertools
import unittest

from borderfloor.errors import FloorError, NoFloor
from borderfloor.layings import Laying, floors_of
from borderfloor.turnings import Turning, turnings_of
from borderfloor.windows import window_of
from helper import BIG, FAR, chance_pieces, drawn, pieces_up_to, shifted

DOMINO = ((0, 0), (1, 0))
TEN = drawn("#####/#####")


class WindowTest(unittest.TestCase):
    def expected(self, laying, cell, wide, high):
        rows = []
        for y in range(high - 1, -1, -1):
            row = ""
            for x in range(wide):
                half, own, shift = laying.place_of((cell[0] + x, cell[1] + y))
                row += ("ABCDEFGHIJ" if half else "abcdefghij")[laying.piece.index(own)]
            rows.append(row)
        return rows

    def test_of_layings_told_by_hand(self):
        self.assertEqual(window_of(Laying(((0, 0),), (1, 0, 1)), (0, 0), 3, 2), ["aaa", "aaa"])
        self.assertEqual(window_of(Laying(DOMINO, (2, 0, 1)), (0, 0), 5, 2), ["ababa", "ababa"])
        self.assertEqual(window_of(Laying(DOMINO, (2, 1, 1)), (0, 0), 5, 3), ["ababa", "babab", "ababa"])
        self.assertEqual(window_of(Laying(DOMINO, (2, 1, 1)), (1, 0), 3, 2), ["aba", "bab"])

    def test_the_northern_row_first(self):
        self.assertEqual(window_of(Laying(((0, 0), (0, 1), (0, 2)), (1, 0, 3)), (0, 0), 2, 4), ["aa", "cc", "bb", "aa"])
        self.assertEqual(window_of(Laying(((0, 0), (0, 1), (0, 2)), (1, 0, 3)), (-5, -1), 1, 3), ["b", "a", "c"])

    def test_letters_from_a_to_j(self):
        self.assertEqual(window_of(Laying(TEN, (5, 0, 2)), (0, 0), 5, 2), ["fghij", "abcde"])
        self.assertEqual(window_of(Laying(drawn("##########"), (10, 0, 1)), (0, 0), 10, 1), ["abcdefghij"])

    def test_capital_letters_where_a_cell_lies_turned_half(self):
        self.assertEqual(window_of(Turning(DOMINO, (4, 1, 1), (3, 0)), (0, 0), 5, 2), ["AabBA", "abBAa"])
        row = drawn("######")
        self.assertEqual(window_of(Turning(row, (12, 0, 1), (11, 0)), (0, 0), 12, 1), ["abcdefFEDCBA"])

    def test_no_rows_and_no_columns(self):
        for laying in (Laying(DOMINO, (2, 1, 1)), Turning(DOMINO, (4, 1, 1), (3, 0))):
            self.assertEqual(window_of(laying, (0, 0), 5, 0), [])
            self.assertEqual(window_of(laying, (0, 0), 0, 3), ["", "", ""])
            self.assertEqual(window_of(laying, (0, 0), 0, 0), [])
            self.assertEqual(window_of(laying, (BIG, -BIG), 0, 40), [""] * 40)

    def test_wide_and_high_ones(self):
        laying = Laying(DOMINO, (2, 1, 1))
        self.assertEqual(window_of(laying, (0, 0), 40, 2), ["ba" * 20, "ab" * 20])
        self.assertEqual(window_of(laying, (0, 0), 2, 40), ["ba", "ab"] * 20)
        turning = Turning(DOMINO, (4, 0, 1), (3, 0))
        self.assertEqual(window_of(turning, (1, -9), 40, 2), ["bBAa" * 10] * 2)
        self.assertEqual(window_of(turning, (2, 9), 2, 40), ["BA"] * 40)
        self.assertEqual([len(row) for row in window_of(turning, (0, 0), 40, 40)], [40] * 40)

    def test_far_out(self):
        laying = Laying(DOMINO, (2, 1, 1))
        self.assertEqual(window_of(laying, (BIG, BIG), 3, 2), ["bab", "aba"])
        for shift in FAR:
            self.assertEqual(window_of(laying, shift, 6, 4), self.expected(laying, shift, 6, 4))
            there = Laying(shifted(TEN, shift), (5, 0, 2))
            self.assertEqual(window_of(there, shift, 5, 2), ["fghij", "abcde"])

    def test_who_lies_on_each_cell(self):
        for piece in pieces_up_to(4) + chance_pieces(6, 4, 50):
            layings = [Laying(piece, grid) for grid in floors_of(piece)]
            layings += [Turning(piece, grid, centre) for grid, centre in turnings_of(piece)[::5]]
            for laying, cell in itertools.product(layings, ((0, 0), (-7, 4), FAR[2])):
                self.assertEqual(window_of(laying, cell, 5, 3), self.expected(laying, cell, 5, 3))

    def test_of_no_floor(self):
        for laying in (Laying(DOMINO, (1, 0, 2)), Turning(DOMINO, (4, 0, 1), (1, 0))):
            for wide, high in ((3, 3), (0, 3), (3, 0), (0, 0), (40, 40)):
                with self.assertRaises(FloorError) as taken:
                    window_of(laying, (0, 0), wide, high)
                self.assertIs(type(taken.exception), NoFloor)

    def test_the_told_list_is_the_askers_own(self):
        laying = Laying(DOMINO, (2, 0, 1))
        told = window_of(laying, (0, 0), 2, 2)
        self.assertIs(type(told), list)
        told.clear()
        self.assertEqual(window_of(laying, (0, 0), 2, 2), ["ab", "ab"])
        window_of(laying, (0, 0), 2, 0).append("x")
        self.assertEqual(window_of(laying, (0, 0), 2, 0), [])


if __name__ == "__main__":
    unittest.main()
