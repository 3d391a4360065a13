"""Pieces drawn as texts, and drawings read [9]."""

import unittest

from borderfloor.drawings import drawing_of, read_drawing
from borderfloor.errors import Apart, FloorError, Hole, NoDrawing, NoPiece, TooMany
from helper import BIG, FAR, chance_pieces, drawn, pieces_up_to, shifted

LEANING = ((1, 0), (2, 0), (0, 1), (1, 1))


class DrawnTest(unittest.TestCase):
    def test_as_in_the_document(self):
        self.assertEqual(drawing_of(LEANING), "##./.##")

    def test_one_cell_a_row_and_a_column(self):
        self.assertEqual(drawing_of(((0, 0),)), "#")
        self.assertEqual(drawing_of(tuple((x, 0) for x in range(10))), "##########")
        self.assertEqual(drawing_of(tuple((0, y) for y in range(10))), "#/#/#/#/#/#/#/#/#/#")

    def test_the_northern_row_first_and_the_western_sign_first(self):
        self.assertEqual(drawing_of(((0, 0), (1, 0), (2, 0), (2, 1))), "..#/###")
        self.assertEqual(drawing_of(((0, 0), (0, 1), (0, 2), (1, 2))), "##/#./#.")

    def test_a_bay(self):
        self.assertEqual(drawing_of(((0, 0), (1, 0), (2, 0), (0, 1), (2, 1))), "#.#/###")

    def test_the_first_cell_need_not_have_the_least_x(self):
        self.assertEqual(drawing_of(((5, 5), (4, 6), (5, 6))), "##/.#")

    def test_wherever_the_piece_lies(self):
        for shift in ((3, -2), (-7, -7), (-1, 0)) + FAR:
            self.assertEqual(drawing_of(shifted(LEANING, shift)), "##./.##")
        self.assertEqual(drawing_of(((BIG, -BIG),)), "#")

    def test_of_numbers_with_very_many_figures(self):
        self.assertEqual(drawing_of(shifted(LEANING, (10 ** 6000, -(10 ** 6000)))), "##./.##")


class ReadTest(unittest.TestCase):
    def test_as_in_the_document(self):
        self.assertEqual(read_drawing("##./.##"), LEANING)

    def test_a_tuple_of_tuples_of_whole_numbers(self):
        piece = read_drawing("##./.##")
        self.assertIs(type(piece), tuple)
        for cell in piece:
            self.assertIs(type(cell), tuple)
            self.assertEqual([type(number) for number in cell], [int, int])

    def test_the_last_row_lies_south(self):
        self.assertEqual(read_drawing("#"), ((0, 0),))
        self.assertEqual(read_drawing("..#/###"), ((0, 0), (1, 0), (2, 0), (2, 1)))
        self.assertEqual(read_drawing("##/#./#."), ((0, 0), (0, 1), (0, 2), (1, 2)))

    def test_rows_and_columns_of_points_alone(self):
        for text in (
            ".##./..##",
            "##../.##.",
            ".../##./.##",
            "##./.##/...",
            "......./......./..##.../...##../.......",
            "..../..../##../.##./..../....",
        ):
            with self.subTest(text):
                self.assertEqual(read_drawing(text), LEANING)
        self.assertEqual(read_drawing("....#"), ((0, 0),))
        self.assertEqual(read_drawing("./././#"), ((0, 0),))
        self.assertEqual(read_drawing("#/./././."), ((0, 0),))

    def test_texts_of_two_hundred_signs(self):
        rows = ["." * 19] * 10
        rows[4] = "." * 5 + "#" * 10 + "." * 4
        text = "/".join(rows)
        self.assertEqual(len(text), 199)
        self.assertEqual(read_drawing(text), tuple((x, 0) for x in range(10)))
        self.assertEqual(read_drawing("." * 199 + "#"), ((0, 0),))

    def test_drawn_and_read_again(self):
        for piece in pieces_up_to(6) + chance_pieces(10, 40, 9):
            text = drawing_of(piece)
            self.assertEqual(drawn(text), piece)
            self.assertEqual(read_drawing(text), piece)
            self.assertEqual(read_drawing(drawing_of(shifted(piece, (BIG, -3)))), piece)

    def test_read_and_drawn_again(self):
        for text in ("#", "##", "#/#", "#.#/###", ".#./###/.#.", "##../.##./..##"):
            self.assertEqual(drawing_of(read_drawing(text)), text)


class RefusedTest(unittest.TestCase):
    def refused(self, kind, text, cell=None):
        with self.subTest(text), self.assertRaises(FloorError) as taken:
            read_drawing(text)
        self.assertIs(type(taken.exception), kind, text)
        if cell is not None:
            self.assertEqual(taken.exception.cell, cell)

    def test_the_text_without_signs(self):
        self.refused(NoDrawing, "")

    def test_an_empty_row(self):
        for text in ("/", "/#", "#/", "#//#", "/##./.##", "##./.##/", "##.//.##", "//", "/./#", "./#/"):
            self.refused(NoDrawing, text)

    def test_rows_of_unlike_lengths(self):
        for text in ("#/##", "##/#", "#/#/##", "##/##/#", "##/#/##", "./..", "#./#"):
            self.refused(NoDrawing, text)

    def test_another_sign(self):
        for text in ("x", "#x", "##./.#o", " ", "# #", " #", "# ", "#.\\.#", "##,.#", "0", "e", "#\n#", "-/#"):
            self.refused(NoDrawing, text)
        for number in range(ord(" "), ord("~") + 1):
            if chr(number) not in "#./%":
                self.refused(NoDrawing, "#" + chr(number) + "#")
                self.refused(NoDrawing, "##./." + chr(number) + "#")

    def test_points_alone(self):
        for text in (".", "...", "./.", "..../....", "." * 200):
            self.refused(NoPiece, text)

    def test_more_than_ten_crosses(self):
        self.refused(TooMany, "#" * 11)
        self.refused(TooMany, "######/######")
        self.refused(TooMany, "#" * 200)
        self.assertEqual(len(read_drawing("#####/#####")), 10)

    def test_cells_apart_as_they_stand_in_the_text(self):
        self.refused(Apart, "#.#", (2, 0))
        self.refused(Apart, "#./.#", (0, 1))
        self.refused(Apart, ".#/#.", (1, 1))
        self.refused(Apart, "....#/...../..#../.....", (4, 3))
        self.refused(Apart, "#..../..##./...../.....", (0, 3))
        self.refused(Apart, ".#.#./.###./...../#....", (1, 2))

    def test_a_hole_as_it_stands_in_the_text(self):
        self.refused(Hole, "###/#.#/###", (1, 1))
        self.refused(Hole, ".##/#.#/###", (1, 1))
        self.refused(Hole, "...../..###/..#.#/..###/...../.....", (3, 3))
        self.refused(Hole, "####/#..#/####", (1, 1))
        self.refused(Hole, ".###/.#.#/.#.#/.###", (2, 1))

    def test_of_two_refusals_the_one_told_first(self):
        # A sign or a row that is none, and no cell, too many, cells apart.
        self.refused(NoDrawing, ".x.")
        self.refused(NoDrawing, "###########x")
        self.refused(NoDrawing, "#.x.#")
        self.refused(NoDrawing, "./")
        self.refused(NoDrawing, "#.#/#")
        # More than ten and apart; more than ten and a hole; apart and a hole.
        self.refused(TooMany, "#.##########")
        self.refused(TooMany, "#####/#...#/#####")
        self.refused(Apart, "###../#.#../###.#", (4, 0))
        self.refused(Apart, "#..../..###/..#.#/..###", (0, 3))


if __name__ == "__main__":
    unittest.main()
