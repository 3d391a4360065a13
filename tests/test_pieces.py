"""Pieces: what they are [5], how they are made and refused [6], moved and settled [7]."""

import itertools
import random
import unittest

from borderfloor.errors import Apart, FloorError, Hole, NoPiece, TooMany
from borderfloor.pieces import moved, piece_of, settled

BIG = 10 ** 60 - 1
ROW_OF_TEN = tuple((x, 0) for x in range(10))
LEANING = ((-1, -1), (0, -1), (0, 0), (1, 0))
RING = ((0, 0), (1, 0), (2, 0), (0, 1), (2, 1), (0, 2), (1, 2), (2, 2))


def far(cells, shift):
    return [(x + shift[0], y + shift[1]) for x, y in cells]


def joined(cells):
    """The parts of the cells that hang together, found by laying parts together one by one."""
    parts = []
    for x, y in cells:
        near = {(x + 1, y), (x - 1, y), (x, y + 1), (x, y - 1)}
        touched = [part for part in parts if part & near]
        parts = [part for part in parts if not part & near]
        parts.append({(x, y)}.union(*touched))
    return parts


def what_is_asked(some):
    """What 6 asks of a list of cells with x and y from 0 to 3, reckoned in another way."""
    cells = sorted(set(some), key=lambda cell: cell[::-1])
    if not cells:
        return NoPiece, None
    if len(cells) > 10:
        return TooMany, None
    first = [part for part in joined(cells) if cells[0] in part][0]
    apart = [cell for cell in cells if cell not in first]
    if apart:
        return Apart, apart[0]
    empty = [(x, y) for y in range(-2, 6) for x in range(-2, 6) if (x, y) not in cells]
    outside = [part for part in joined(empty) if (-2, -2) in part][0]
    shut_in = [cell for cell in empty if cell not in outside]
    if shut_in:
        return Hole, shut_in[0]
    return tuple, tuple(cells)


def what_is_told(some):
    try:
        return tuple, piece_of(some)
    except (Apart, Hole) as error:
        return type(error), error.cell
    except FloorError as error:
        return type(error), None


class MadeTest(unittest.TestCase):
    def test_one_cell(self):
        self.assertEqual(piece_of([(0, 0)]), ((0, 0),))
        self.assertEqual(piece_of([(-5, BIG)]), ((-5, BIG),))

    def test_in_the_order_of_cells(self):
        self.assertEqual(piece_of([(1, 0), (0, -1), (0, 0), (-1, -1)]), LEANING)
        for some in itertools.permutations(LEANING):
            self.assertEqual(piece_of(list(some)), LEANING)

    def test_a_tuple_of_tuples(self):
        piece = piece_of([(1, 0), (0, 0)])
        self.assertIs(type(piece), tuple)
        for cell in piece:
            self.assertIs(type(cell), tuple)

    def test_cells_told_more_than_once(self):
        self.assertEqual(piece_of([(0, 0), (0, 0)]), ((0, 0),))
        self.assertEqual(piece_of([(0, 1), (0, 0), (0, 1), (0, 0), (0, 1)]), ((0, 0), (0, 1)))

    def test_ten_cells(self):
        self.assertEqual(piece_of(list(reversed(ROW_OF_TEN))), ROW_OF_TEN)
        stairs = [(k // 2, (k + 1) // 2) for k in range(10)]
        self.assertEqual(piece_of(stairs), tuple(sorted(stairs, key=lambda cell: cell[::-1])))

    def test_ten_unlike_cells_some_more_than_once(self):
        self.assertEqual(piece_of(list(ROW_OF_TEN) + [(9, 0), (0, 0), (5, 0)]), ROW_OF_TEN)
        self.assertEqual(piece_of(list(ROW_OF_TEN) * 20), ROW_OF_TEN)

    def test_an_open_bay_is_no_hole(self):
        bay = [cell for cell in RING if cell != (1, 2)]
        self.assertEqual(piece_of(bay), tuple(bay))
        lane = [(0, 0), (1, 0), (2, 0), (3, 0), (0, 1), (0, 2), (1, 2), (2, 2), (3, 2)]
        self.assertEqual(piece_of(lane), tuple(lane))
        self.refused_hole(lane + [(3, 1)])

    def refused_hole(self, some):
        with self.assertRaises(Hole):
            piece_of(some)

    def test_pieces_far_out(self):
        for shift in ((BIG, BIG), (-BIG, BIG), (BIG, -BIG), (-BIG, -BIG)):
            cells = far(LEANING, shift)
            self.assertEqual(piece_of(cells[::-1]), tuple(cells))

    def test_the_list_handed_in_stays_as_it_was(self):
        for some in ([(1, 0), (0, 0), (1, 0)], [], [(5, 5), (0, 0)], list(RING)[::-1], list(ROW_OF_TEN) + [(10, 0)]):
            as_it_was = list(some)
            what_is_told(some)
            self.assertEqual(some, as_it_was)

    def test_the_list_handed_in_is_not_looked_at_again(self):
        some = [(1, 0), (0, 0)]
        piece = piece_of(some)
        some.clear()
        self.assertEqual(piece, ((0, 0), (1, 0)))


class RefusedTest(unittest.TestCase):
    def refused(self, kind, cell, some):
        with self.assertRaises(kind) as taken:
            piece_of(some)
        self.assertIs(type(taken.exception), kind)
        if cell is not None:
            self.assertEqual(taken.exception.cell, cell)
            self.assertIs(type(taken.exception.cell), tuple)

    def test_no_cell(self):
        self.refused(NoPiece, None, [])

    def test_eleven_unlike_cells(self):
        self.refused(TooMany, None, [(x, 0) for x in range(11)])
        self.refused(TooMany, None, [(x, 0) for x in range(11)] * 2)
        self.refused(TooMany, None, [(x, y) for x in range(20) for y in range(10)])

    def test_apart_tells_the_first_cell_to_which_no_way_leads(self):
        self.refused(Apart, (5, 5), [(0, 0), (5, 5)])
        self.refused(Apart, (2, 0), [(0, 0), (2, 0), (3, 0), (9, 9)])
        self.refused(Apart, (5, 1), [(9, 1), (7, 1), (5, 1), (1, 1), (0, 1), (0, 0)])
        # The first cell of all stands alone: the second one of the order is told.
        self.refused(Apart, (-3, 1), [(0, 0), (-3, 1), (-2, 1), (-2, 2)])

    def test_a_cell_reached_only_late_in_the_order_is_not_apart(self):
        arch = [(0, 0), (2, 0), (0, 1), (2, 1), (0, 2), (1, 2), (2, 2)]
        self.assertEqual(piece_of(arch), tuple(arch))
        self.refused(Apart, (4, 2), arch + [(4, 2)])

    def test_cells_that_touch_at_a_corner_only(self):
        self.refused(Apart, (1, 1), [(0, 0), (1, 1)])
        self.refused(Apart, (0, 1), [(0, 1), (1, 0)])
        self.refused(Apart, (-1, 1), [(0, 0), (1, 0), (-1, 1)])

    def test_apart_with_cells_told_more_than_once(self):
        self.refused(Apart, (0, 2), [(0, 2), (0, 0), (0, 2), (0, 0)])

    def test_an_empty_cell_shut_in(self):
        self.refused(Hole, (1, 1), list(RING))
        self.refused(Hole, (1, 1), list(RING) + list(RING)[::-1])

    def test_an_empty_cell_that_has_a_way_out_over_a_corner_only(self):
        for corner in ((0, 0), (2, 0), (0, 2), (2, 2)):
            self.refused(Hole, (1, 1), [cell for cell in RING if cell != corner])

    def test_the_first_of_two_cells_shut_in(self):
        wide = [(x, y) for x in range(4) for y in range(3) if (x, y) not in ((1, 1), (2, 1))]
        high = [(y, x) for x, y in wide]
        self.refused(Hole, (1, 1), wide)
        self.refused(Hole, (1, 1), high[::-1])
        self.refused(Hole, (1, 1), [cell for cell in wide if cell != (0, 0)])

    def test_of_two_refusals_the_one_told_first(self):
        # More than ten, and apart; more than ten, and a hole; both.
        self.refused(TooMany, None, [(2 * x, 0) for x in range(11)])
        self.refused(TooMany, None, list(RING) + [(3, 0), (4, 0), (5, 0)])
        self.refused(TooMany, None, list(RING) + [(30, 0), (40, 0), (50, 0)])
        # Apart, and a hole, whichever lies first.
        self.refused(Apart, (5, 5), list(RING) + [(5, 5)])
        self.refused(Apart, (0, 0), list(RING) + [(-5, -5)])

    def test_an_empty_cell_within_cells_that_touch_at_corners_only(self):
        self.refused(Apart, (0, 1), [(1, 0), (0, 1), (2, 1), (1, 2)])

    def test_refused_far_out(self):
        self.refused(Apart, (BIG, BIG), [(-BIG, -BIG), (BIG, BIG)])
        self.refused(Apart, (BIG, -1), [(BIG, 0), (-BIG, 0), (-BIG, -1), (BIG, -1)])
        for shift in ((BIG, BIG), (-BIG, BIG), (BIG, -BIG), (-BIG, -BIG)):
            self.refused(Hole, (1 + shift[0], 1 + shift[1]), far(RING, shift))
            self.refused(Apart, (1 + shift[0], 1 + shift[1]), far([(1, 1), (0, 0)], shift))

    def test_all_sets_of_cells_of_a_small_box(self):
        box = [(x, y) for x in range(4) for y in range(3)]
        chance = random.Random(6)
        kinds = {}
        for number in range(2 ** len(box)):
            some = [cell for place, cell in enumerate(box) if number >> place & 1]
            some = some + chance.sample(some, len(some) // 3)
            chance.shuffle(some)
            asked = what_is_asked(some)
            self.assertEqual(what_is_told(some), asked, some)
            kinds[asked[0]] = True
        self.assertEqual(len(kinds), 5)

    def test_some_sets_of_cells_of_a_larger_box(self):
        box = [(x, y) for x in range(4) for y in range(4)]
        chance = random.Random(5)
        for number in range(4000):
            some = chance.sample(box, chance.randint(7, 11))
            self.assertEqual(what_is_told(some), what_is_asked(some), some)


class MovedTest(unittest.TestCase):
    def test_cell_by_cell(self):
        self.assertEqual(moved(LEANING, (10, 20)), ((9, 19), (10, 19), (10, 20), (11, 20)))
        self.assertEqual(moved(((3, 4),), (0, 0)), ((3, 4),))

    def test_shifts_below_nought_and_of_many_figures(self):
        self.assertEqual(moved(LEANING, (-3, -5)), ((-4, -6), (-3, -6), (-3, -5), (-2, -5)))
        self.assertEqual(moved(LEANING, (BIG, -BIG)), tuple(far(LEANING, (BIG, -BIG))))

    def test_a_piece_again(self):
        for shift in ((1, 0), (0, -1), (-7, 7), (BIG, -BIG)):
            there = moved(LEANING, shift)
            self.assertIs(type(there), tuple)
            self.assertEqual(piece_of(list(there)), there)

    def test_moved_and_moved_back(self):
        for x, y in ((1, 2), (-3, 5), (BIG, -BIG), (0, 0)):
            self.assertEqual(moved(moved(LEANING, (x, y)), (-x, -y)), LEANING)
            self.assertEqual(moved(moved(ROW_OF_TEN, (x, y)), (-x, -y)), ROW_OF_TEN)


class SettledTest(unittest.TestCase):
    def test_least_x_and_least_y_become_nought(self):
        self.assertEqual(settled(LEANING), ((0, 0), (1, 0), (1, 1), (2, 1)))
        self.assertEqual(settled(((7, 9),)), ((0, 0),))

    def test_the_least_x_need_not_be_that_of_the_first_cell(self):
        self.assertEqual(settled(((5, 5), (4, 6), (5, 6))), ((1, 0), (0, 1), (1, 1)))
        self.assertEqual(settled(((0, 0), (-1, 1), (0, 1))), ((1, 0), (0, 1), (1, 1)))

    def test_settled_again(self):
        for piece in (LEANING, ROW_OF_TEN, ((5, 5), (4, 6), (5, 6))):
            self.assertEqual(settled(settled(piece)), settled(piece))
        self.assertEqual(settled(ROW_OF_TEN), ROW_OF_TEN)

    def test_wherever_it_was_moved(self):
        for shift in ((4, -4), (-BIG, BIG), (BIG, BIG), (0, 0)):
            self.assertEqual(settled(moved(LEANING, shift)), settled(LEANING))

    def test_a_piece_again(self):
        there = settled(LEANING)
        self.assertIs(type(there), tuple)
        self.assertEqual(piece_of(list(there)), there)


if __name__ == "__main__":
    unittest.main()
