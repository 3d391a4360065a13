"""The eight turns [8]."""

import itertools
import unittest

from borderfloor.pieces import piece_of, settled
from borderfloor.turns import turn_back, turn_behind, turned, turned_piece

BIG = 10 ** 60 - 1
PAIRS = ((3, 5), (-2, 7), (0, 1), (1, 0), (0, 0), (-4, -4), (BIG, 2 - BIG))
HOOK = ((0, 0), (1, 0), (2, 0), (2, 1))


class TurnedTest(unittest.TestCase):
    def test_each_turn(self):
        expected = [(3, 5), (-5, 3), (-3, -5), (5, -3), (-3, 5), (-5, -3), (3, -5), (5, 3)]
        self.assertEqual([turned((3, 5), k) for k in range(8)], expected)

    def test_each_turn_of_numbers_below_nought(self):
        expected = [(-2, 7), (-7, -2), (2, -7), (7, 2), (2, 7), (-7, 2), (-2, -7), (7, -2)]
        self.assertEqual([turned((-2, 7), k) for k in range(8)], expected)

    def test_as_the_document_tells_it_step_by_step(self):
        for pair, k in itertools.product(PAIRS, range(8)):
            x, y = pair
            if k >= 4:
                x, y = -x, y
            for quarter in range(k - 4 if k >= 4 else k):
                x, y = -y, x
            self.assertEqual(turned(pair, k), (x, y))

    def test_numbers_of_sixty_figures(self):
        self.assertEqual(turned((BIG, 2 - BIG), 1), (BIG - 2, BIG))
        self.assertEqual(turned((BIG, 2 - BIG), 7), (2 - BIG, BIG))

    def test_a_tuple(self):
        for k in range(8):
            self.assertIs(type(turned((3, 5), k)), tuple)


class TurnedPieceTest(unittest.TestCase):
    def test_each_turn_in_order_and_not_settled(self):
        expected = [
            ((0, 0), (1, 0), (2, 0), (2, 1)),
            ((0, 0), (0, 1), (-1, 2), (0, 2)),
            ((-2, -1), (-2, 0), (-1, 0), (0, 0)),
            ((0, -2), (1, -2), (0, -1), (0, 0)),
            ((-2, 0), (-1, 0), (0, 0), (-2, 1)),
            ((-1, -2), (0, -2), (0, -1), (0, 0)),
            ((2, -1), (0, 0), (1, 0), (2, 0)),
            ((0, 0), (0, 1), (0, 2), (1, 2)),
        ]
        self.assertEqual([turned_piece(HOOK, k) for k in range(8)], expected)

    def test_a_piece_again(self):
        for k in range(8):
            there = turned_piece(HOOK, k)
            self.assertIs(type(there), tuple)
            self.assertEqual(piece_of(list(there)), there)

    def test_not_settled(self):
        self.assertEqual(turned_piece(((5, 7),), 2), ((-5, -7),))
        self.assertEqual(turned_piece(((BIG, 7),), 1), ((-7, BIG),))
        self.assertNotEqual(turned_piece(HOOK, 2), settled(turned_piece(HOOK, 2)))

    def test_turned_and_turned_back(self):
        for k in range(8):
            self.assertEqual(turned_piece(turned_piece(HOOK, k), turn_back(k)), HOOK)


class TurnsOfTurnsTest(unittest.TestCase):
    def test_some_told_by_hand(self):
        self.assertEqual(turn_behind(1, 1), 2)
        self.assertEqual(turn_behind(3, 2), 1)
        self.assertEqual(turn_behind(4, 1), 5)
        self.assertEqual(turn_behind(1, 4), 7)
        self.assertEqual(turn_behind(4, 4), 0)
        self.assertEqual(turn_behind(5, 6), 1)
        self.assertEqual(turn_behind(6, 5), 3)

    def test_each_two_turns(self):
        for k, j in itertools.product(range(8), repeat=2):
            both = turn_behind(k, j)
            self.assertIs(type(both), int)
            self.assertIn(both, range(8))
            for pair in PAIRS:
                self.assertEqual(turned(turned(pair, k), j), turned(pair, both), (k, j))
            self.assertEqual(turned_piece(turned_piece(HOOK, k), j), turned_piece(HOOK, both))

    def test_each_turn_is_undone(self):
        self.assertEqual([turn_back(k) for k in range(8)], [0, 3, 2, 1, 4, 5, 6, 7])
        for k in range(8):
            self.assertIs(type(turn_back(k)), int)
            self.assertEqual(turn_behind(k, turn_back(k)), 0)
            self.assertEqual(turn_behind(turn_back(k), k), 0)
            for pair in PAIRS:
                self.assertEqual(turned(turned(pair, k), turn_back(k)), pair)


if __name__ == "__main__":
    unittest.main()
