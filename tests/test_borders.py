"""The border of a piece [12], the piece inside a word [13], and that both lead to each other [14]."""

import itertools
import unittest

from borderfloor.borders import border_of, inside_of
from borderfloor.errors import Backward, Crossed, FloorError, NoWord, Open, TooMany
from borderfloor.pieces import piece_of
from borderfloor.words import backwards, begun_at, corners_of, way_of
from helper import BIG, FAR, chance_pieces, drawn, near, ordered, pieces_up_to, shifted

MANY = pieces_up_to(7) + chance_pieces(8, 60, 1) + chance_pieces(9, 60, 2) + chance_pieces(10, 200, 3)
# From the corner where a side begins: the cell at its left hand, that at its right hand.
LEFT = {"e": (0, 0), "n": (-1, 0), "w": (-1, -1), "s": (0, -1)}
RIGHT = {"e": (0, -1), "n": (0, 0), "w": (-1, 0), "s": (-1, -1)}


def beside(corners, word, hand):
    return [(corner[0] + hand[letter][0], corner[1] + hand[letter][1]) for corner, letter in zip(corners, word)]


def what_is_asked(word):
    """What 13 asks of a word from (0, 0) on, reckoned in another way."""
    if not word or set(word) - set("enws"):
        return NoWord, min([place for place, sign in enumerate(word) if sign not in "enws"], default=0)
    way = way_of(word)
    if way != (0, 0):
        return Open, way
    corners = corners_of((0, 0), word)
    for place in range(len(word) - 1):
        if corners[place + 1] in corners[:place + 1]:
            return Crossed, place
    left = set(beside(corners, word, LEFT))
    right = set(beside(corners, word, RIGHT))
    # How often the word goes round a cell is counted by the upright sides east of it.
    box = range(-len(word), len(word))
    inside = []
    for x, y in itertools.product(box, box):
        turns = 0
        for corner, letter in zip(corners, word):
            if corner[0] > x and (letter, corner[1]) in (("n", y), ("s", y + 1)):
                turns += 1 if letter == "n" else -1
        if turns == 1:
            inside.append((x, y))
    if not inside:
        return Backward, None
    if len(inside) > 10:
        return TooMany, None
    assert left <= set(inside) and not right & set(inside)
    return tuple, ordered(inside)


def what_is_told(word):
    try:
        return tuple, inside_of((0, 0), word)
    except (NoWord, Crossed) as error:
        return type(error), error.place
    except Open as error:
        return Open, error.way
    except FloorError as error:
        return type(error), None


class BorderTest(unittest.TestCase):
    def test_one_cell(self):
        self.assertEqual(border_of(((0, 0),)), ((0, 0), "enws"))
        self.assertEqual(border_of(((-3, 4),)), ((-3, 4), "enws"))

    def test_rows_columns_and_squares(self):
        self.assertEqual(border_of(((0, 0), (1, 0))), ((0, 0), "eenwws"))
        self.assertEqual(border_of(((0, 0), (0, 1))), ((0, 0), "ennwss"))
        self.assertEqual(border_of(((0, 0), (1, 0), (0, 1), (1, 1))), ((0, 0), "eennwwss"))
        self.assertEqual(border_of(tuple((x, 0) for x in range(10))), ((0, 0), "e" * 10 + "n" + "w" * 10 + "s"))
        self.assertEqual(border_of(tuple((0, y) for y in range(10))), ((0, 0), "e" + "n" * 10 + "w" + "s" * 10))

    def test_begun_at_the_first_cell_in_the_order_of_cells(self):
        self.assertEqual(border_of(drawn("##./.##")), ((1, 0), "eenwnwwses"))
        self.assertEqual(border_of(((5, 5), (4, 6), (5, 6))), ((5, 5), "ennwwses"))

    def test_bays(self):
        self.assertEqual(border_of(drawn("#.#/###")), ((0, 0), "eeennwswnwss"))
        self.assertEqual(border_of(drawn("##/#./##")), ((0, 0), "eenwnenwwsss"))
        self.assertEqual(border_of(drawn("###/#.#/#.#/#.#")), ((0, 0), "ennnesssennnnwwwssss"))

    def test_two_cells_that_touch_at_a_corner_with_a_third_beside_both(self):
        self.assertEqual(border_of(drawn("#./##")), ((0, 0), "eenwnwss"))
        self.assertEqual(border_of(drawn("##/.#")), ((1, 0), "ennwwses"))
        self.assertEqual(border_of(drawn(".#./###/.#.")), ((1, 0), "enenwnwswses"))

    def test_far_out(self):
        piece = drawn("##./.##")
        for shift in FAR:
            self.assertEqual(border_of(shifted(piece, shift)), ((1 + shift[0], shift[1]), "eenwnwwses"))
        far = 10 ** 6000
        self.assertTrue(border_of(((far, -far),)) == ((far, -far), "enws"))

    def test_once_round_along_just_the_sides_that_part_the_piece_from_other_cells(self):
        for piece in MANY:
            told = border_of(piece)
            self.assertIs(type(told), tuple)
            corner, word = told
            self.assertEqual(corner, piece[0])
            self.assertEqual((word[0], word[-1]), ("e", "s"))
            corners = corners_of(corner, word)
            self.assertEqual(corners[-1], corner)
            self.assertEqual(len(set(corners)), len(word))
            self.assertTrue(set(beside(corners, word, LEFT)) <= set(piece))
            self.assertFalse(set(beside(corners, word, RIGHT)) & set(piece))
            self.assertEqual(len(word), sum(len(near(cell) - set(piece)) for cell in piece))


class InsideTest(unittest.TestCase):
    def test_ordinary(self):
        self.assertEqual(inside_of((0, 0), "enws"), ((0, 0),))
        self.assertEqual(inside_of((0, 0), "eenwws"), ((0, 0), (1, 0)))
        self.assertEqual(inside_of((1, 0), "eenwnwwses"), drawn("##./.##"))
        self.assertEqual(inside_of((0, 0), "eeennwswnwss"), drawn("#.#/###"))

    def test_begun_at_any_corner(self):
        self.assertEqual(inside_of((0, 0), "nwse"), ((-1, 0),))
        self.assertEqual(inside_of((0, 0), "wsen"), ((-1, -1),))
        self.assertEqual(inside_of((0, 0), "senw"), ((0, -1),))
        self.assertEqual(inside_of((5, -7), "senw"), ((5, -8),))

    def test_far_out(self):
        for shift in FAR:
            self.assertEqual(inside_of((1 + shift[0], shift[1]), "eenwnwwses"), shifted(drawn("##./.##"), shift))

    def test_each_border_begun_at_each_place(self):
        for piece in MANY:
            corner, word = border_of(piece)
            corners = corners_of(corner, word)
            places = range(len(word) + 1) if len(piece) in (4, 10) else (0, 1, len(word) // 2, len(word))
            for place in places:
                there = inside_of(corners[place], begun_at(word, place))
                self.assertEqual(there, piece)
                self.assertIs(type(there), tuple)

    def test_the_border_of_what_is_inside_has_the_same_letters_begun_at_another_place(self):
        for word in ("nwse", "wwseen", "nwwsseen", "sseenwnw", "nwswseeenw"):
            border = border_of(inside_of((3, -4), word))[1]
            self.assertIn(border, [begun_at(word, place) for place in range(len(word))])

    def test_a_piece_in_its_order(self):
        for piece in MANY[::7]:
            corner, word = border_of(piece)
            there = inside_of(corner, word)
            self.assertEqual(piece_of(list(there)), there)

    def test_each_word_of_up_to_seven_letters_and_each_closed_one_of_eight(self):
        kinds = {}
        for length in (0, 1, 2, 3, 4, 5, 6, 7, 8):
            for letters in itertools.product("enws", repeat=length):
                word = "".join(letters)
                if length < 6 or way_of(word) == (0, 0):
                    asked = what_is_asked(word)
                    self.assertEqual(what_is_told(word), asked, word)
                    kinds[asked[0]] = True
        self.assertEqual(set(kinds), {NoWord, Open, Crossed, Backward, tuple})


class RefusedTest(unittest.TestCase):
    def refused(self, kind, word, told=None, corner=(0, 0)):
        with self.subTest(word), self.assertRaises(FloorError) as taken:
            inside_of(corner, word)
        self.assertIs(type(taken.exception), kind, word)
        if kind in (NoWord, Crossed):
            self.assertEqual(taken.exception.place, told)
            self.assertIs(type(taken.exception.place), int)
        if kind is Open:
            self.assertEqual(taken.exception.way, told)
            self.assertIs(type(taken.exception.way), tuple)

    def test_no_word(self):
        self.refused(NoWord, "", 0)
        self.refused(NoWord, "x", 0)
        self.refused(NoWord, "Enws", 0)
        self.refused(NoWord, "enwS", 3)
        self.refused(NoWord, "en ws", 2)
        self.refused(NoWord, " ", 0)
        self.refused(NoWord, "ee#.#", 2)
        self.refused(NoWord, "e" * 59 + "E", 59)

    def test_open_tells_the_way(self):
        self.refused(Open, "e", (1, 0))
        self.refused(Open, "s", (0, -1))
        self.refused(Open, "enw", (0, 1))
        self.refused(Open, "wws", (-2, -1))
        self.refused(Open, "e" * 60, (60, 0), (BIG, -BIG))
        self.refused(Open, "enwss", (0, -1), (7, 7))

    def test_crossed_tells_the_first_letter_that_comes_where_the_word_was(self):
        self.refused(Crossed, "ewew", 1)
        self.refused(Crossed, "eeww", 2)
        self.refused(Crossed, "eewnsw", 2)
        self.refused(Crossed, "enwsenws", 3)
        self.refused(Crossed, "enwsnesw", 3)
        self.refused(Crossed, "eenwsswn", 4)
        self.refused(Crossed, "nwsenwse", 3, (BIG, BIG))
        # Two cells that touch at a corner alone: the word comes there twice.
        self.refused(Crossed, "enenwsws", 5)

    def test_the_last_letter_is_no_crossing(self):
        self.assertEqual(inside_of((0, 0), "enws"), ((0, 0),))
        self.refused(Backward, "ew")

    def test_backward(self):
        for word in ("ew", "we", "ns", "sn", "nesw", "eswn", "swne", "wnes", "nneessww", "nnessw"):
            self.refused(Backward, word)
        self.refused(Backward, "nesw", None, (-BIG, BIG))
        for piece in MANY[::11]:
            self.refused(Backward, backwards(border_of(piece)[1]))

    def test_an_area_of_ten_and_of_eleven(self):
        for word in ("e" * 10 + "n" + "w" * 10 + "s", "eeeeennwwwwwss", "ssssseennnnnww"):
            self.assertEqual(len(inside_of((0, 0), word)), 10)
        self.refused(TooMany, "e" * 11 + "n" + "w" * 11 + "s")
        self.refused(TooMany, "eeeeeenwnwwwwwss")
        self.refused(TooMany, "e" * 15 + "n" * 15 + "w" * 15 + "s" * 15)
        self.refused(TooMany, "eeeennnwwwwsss", None, (BIG, -BIG))

    def test_an_area_far_above_ten_gone_to_the_right(self):
        self.refused(Backward, "n" * 15 + "e" * 15 + "s" * 15 + "w" * 15)

    def test_of_two_refusals_the_one_told_first(self):
        # No word, and open, crossed.
        self.refused(NoWord, "eex", 2)
        self.refused(NoWord, "ewewx", 4)
        # Open, and crossed.
        self.refused(Open, "ewe", (1, 0))
        self.refused(Open, "ewewn", (0, 1))
        # Crossed, and backward, too many.
        self.refused(Crossed, "nsnesw", 1)
        self.refused(Crossed, "nnsneessww", 2)
        self.refused(Crossed, "ns" + "e" * 11 + "n" + "w" * 11 + "s", 1)


if __name__ == "__main__":
    unittest.main()
