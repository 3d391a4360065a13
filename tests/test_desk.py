"""The desk: its lines and answers [34], and its refusals [35]."""

import unittest

from borderfloor.borders import border_of
from borderfloor.desk import Desk
from borderfloor.drawings import drawing_of
from borderfloor.errors import (
    Apart, Backward, Crossed, FloorError, Hole, NoDrawing, NoFloor, NoGrid, NoLine, NoPiece, NotAsMany, Nothing, NoWord,
    Open, TooMany,
)
from borderfloor.layings import Laying, floors_of
from borderfloor.partings import partings_of
from borderfloor.pieces import settled
from borderfloor.turnings import Turning, turnings_of
from borderfloor.turns import turned_piece
from borderfloor.windows import window_of
from helper import chance_pieces, drawn, pieces_up_to

THIRTY = "1" + "0" * 28 + "7"
THIRTY_ONE = "1" + "0" * 29 + "7"
NUMBERED = {"lay": "4 1 1", "half": "8 1 1 5 0", "who": "3 -4", "window": "-1 2 5 3"}


def desk_with(*lines):
    desk = Desk()
    for line in lines:
        desk.say(line)
    return desk


class DeskCase(unittest.TestCase):
    def refused(self, kind, desk, line, field=None):
        with self.subTest(line), self.assertRaises(FloorError) as taken:
            desk.say(line)
        self.assertIs(type(taken.exception), kind, line)
        for name, value in (field or {}).items():
            self.assertEqual(getattr(taken.exception, name), value)

    def kept(self, desk):
        """What a desk tells of what it keeps."""
        told = []
        for line in ("floors", "partings", "who 0 0", "window 0 0 9 4"):
            try:
                told.append(desk.say(line))
            except FloorError as error:
                told.append(type(error))
        return told


class PieceTest(DeskCase):
    def test_a_drawing_is_answered_by_the_borders_word(self):
        desk = Desk()
        self.assertEqual(desk.say("piece #"), "enws")
        self.assertEqual(desk.say("piece ##./.##"), "eenwnwwses")
        self.assertEqual(desk.say("piece ..../.##./.#../...."), "enenwwss")
        for piece in pieces_up_to(4) + chance_pieces(10, 5, 70):
            self.assertEqual(desk.say("piece " + drawing_of(piece)), border_of(piece)[1])

    def test_a_word_is_answered_by_the_drawing(self):
        desk = Desk()
        self.assertEqual(desk.say("word enws"), "#")
        self.assertEqual(desk.say("word eenwnwwses"), "##./.##")
        self.assertEqual(desk.say("word wsen"), "#")
        for piece in pieces_up_to(4) + chance_pieces(10, 5, 71):
            self.assertEqual(desk.say("word " + border_of(piece)[1]), drawing_of(piece))

    def test_the_piece_of_a_word_is_settled(self):
        desk = desk_with("word senw", "lay 1 0 1")
        self.assertEqual(desk.say("who 0 0"), "0 0 by 0 0")
        desk = desk_with("word wwseen", "lay 2 0 1")
        self.assertEqual(desk.say("who -1 5"), "1 0 by -2 5")

    def test_turns(self):
        expected = ["..#/###", "##/.#/.#", "###/#..", "#./#./##", "#../###", ".#/.#/##", "###/..#", "##/#./#."]
        for k, text in enumerate(expected):
            desk = desk_with("piece ..#/###")
            self.assertEqual(desk.say(f"turn {k}"), text)
            self.assertEqual(desk.say("turn 0"), text)
            self.assertEqual(settled(turned_piece(drawn("..#/###"), k)), drawn(text))

    def test_turned_again_and_again(self):
        desk = desk_with("piece ..#/###")
        self.assertEqual([desk.say("turn 1") for number in range(4)], ["##/.#/.#", "###/#..", "#./#./##", "..#/###"])
        self.assertEqual([desk.say("turn 6"), desk.say("turn 6")], ["###/..#", "..#/###"])
        desk.say("turn 1")
        desk.say("lay 4 1 1")
        piece = drawn("##/.#/.#")
        self.assertEqual(desk.say("floors"), " ".join("%d,%d,%d" % grid for grid in floors_of(piece)))

    def test_no_laying_is_kept_behind_these(self):
        for line in ("piece ##", "piece ##./.##", "word eenwws", "turn 0", "turn 5"):
            for laying in ("lay 2 1 1", "lay 1 0 2", "half 4 1 1 3 0"):
                desk = desk_with("piece ##", laying, line)
                self.refused(Nothing, desk, "who 0 0")
                self.refused(Nothing, desk, "window 0 0 1 1")
                desk.say("floors")

    def test_refused_drawings(self):
        desk = Desk()
        self.refused(NoDrawing, desk, "piece ")
        self.refused(NoDrawing, desk, "piece ##./x##")
        self.refused(NoDrawing, desk, "piece #/##")
        self.refused(NoDrawing, desk, "piece floors")
        self.refused(NoDrawing, desk, "piece partings")
        self.refused(NoPiece, desk, "piece ...")
        self.refused(TooMany, desk, "piece ######/#####.")
        self.refused(Apart, desk, "piece #.#/.../...", {"cell": (2, 2)})
        self.refused(Hole, desk, "piece .###/.#.#/.###/....", {"cell": (2, 2)})
        self.refused(Nothing, desk, "floors")

    def test_refused_words(self):
        desk = Desk()
        self.refused(NoWord, desk, "word ", {"place": 0})
        self.refused(NoWord, desk, "word enwS", {"place": 3})
        self.refused(NoWord, desk, "word floors", {"place": 0})
        self.refused(NoWord, desk, "word ##./.##", {"place": 0})
        self.refused(Open, desk, "word enw", {"way": (0, 1)})
        self.refused(Crossed, desk, "word ewew", {"place": 1})
        self.refused(Backward, desk, "word nesw")
        self.refused(Backward, desk, "word ew")
        self.refused(TooMany, desk, "word " + "e" * 11 + "n" + "w" * 11 + "s")
        self.refused(TooMany, desk, "word " + "e" * 15 + "n" * 15 + "w" * 15 + "s" * 15)
        self.refused(Nothing, desk, "partings")


class ListsTest(DeskCase):
    def test_floors(self):
        desk = desk_with("piece #")
        self.assertEqual(desk.say("floors"), "1,0,1")
        self.assertEqual(desk_with("piece ##").say("floors"), "2,0,1 2,1,1")
        self.assertEqual(desk_with("piece .#./###/.#.").say("floors"), "5,2,1 5,3,1")
        self.assertEqual(desk_with("piece #.#/###").say("floors"), "none")

    def test_partings(self):
        self.assertEqual(desk_with("piece #").say("partings"), "0,1")
        self.assertEqual(desk_with("piece ##").say("partings"), "0,2 0,1,2")
        self.assertEqual(desk_with("piece #.#/###").say("partings"), "none")

    def test_as_the_program_tells_them(self):
        for piece in pieces_up_to(5) + chance_pieces(10, 10, 72) + [drawn("##########")]:
            desk = desk_with("piece " + drawing_of(piece))
            for line, told in (("floors", floors_of(piece)), ("partings", partings_of(border_of(piece)[1]))):
                expected = [",".join(str(number) for number in each) for each in told]
                self.assertEqual(desk.say(line), " ".join(expected) if expected else "none")

    def test_they_change_nothing(self):
        desk = desk_with("piece ##", "lay 2 1 1")
        for line in ("floors", "partings", "who 5 5", "window 0 0 3 3", "window 0 0 0 0"):
            desk.say(line)
            self.assertEqual(desk.say("who 0 1"), "1 0 by -1 1")

    def test_nothing(self):
        self.refused(Nothing, Desk(), "floors")
        self.refused(Nothing, Desk(), "partings")
        for k in range(8):
            self.refused(Nothing, Desk(), f"turn {k}")


class LayingTest(DeskCase):
    def test_a_laying(self):
        desk = desk_with("piece ##")
        self.assertEqual(desk.say("lay 2 0 1"), "floor")
        self.assertEqual(desk.say("who 3 0"), "1 0 by 2 0")
        self.assertEqual(desk.say("lay 2 1 1"), "floor")
        self.assertEqual(desk.say("who 3 1"), "0 0 by 3 1")
        self.assertEqual(desk.say("lay 1 0 2"), "meet")
        self.refused(NoFloor, desk, "who 3 1")

    def test_a_turning(self):
        desk = desk_with("piece ##")
        self.assertEqual(desk.say("half 4 1 1 3 0"), "floor")
        self.assertEqual(desk.say("who 0 0"), "0 0 by 0 0")
        self.assertEqual(desk.say("who 3 0"), "0 0 turned by 0 0")
        self.assertEqual(desk.say("who 2 0"), "1 0 turned by 0 0")
        self.assertEqual(desk.say("who 100 5"), "0 0 turned by 97 5")
        self.assertEqual(desk.say("half 4 1 1 1 0"), "meet")
        self.refused(NoFloor, desk, "who 0 0")
        self.assertEqual(desk.say("half 4 1 1 -1 0"), "floor")
        self.assertEqual(desk.say("who -1 0"), "0 0 turned by 0 0")

    def test_the_later_one_is_kept(self):
        desk = desk_with("piece ##", "lay 2 0 1", "half 4 1 1 3 0")
        self.assertEqual(desk.say("who 2 0"), "1 0 turned by 0 0")
        desk.say("lay 2 0 1")
        self.assertEqual(desk.say("who 2 0"), "0 0 by 2 0")

    def test_refused_grids(self):
        desk = desk_with("piece ##./.##")
        for numbers in ("0 0 4", "4 0 0", "4 4 1", "4 5 1", "4 -1 1", "-4 0 1", "4 0 -1", "0 0 0", "1 1 4", "-2 -3 -2"):
            self.refused(NoGrid, desk, "lay " + numbers)
            self.refused(NoGrid, desk, "half " + numbers + " 0 0")
        for numbers in ("1 0 1", "5 4 1", "3 2 1", "8 7 1", "2 1 4", f"{THIRTY} 4 {THIRTY}"):
            self.refused(NotAsMany, desk, "lay " + numbers)
        for numbers in ("1 0 1", "4 1 1", "2 0 2", "9 0 1", f"{THIRTY} 4 {THIRTY}"):
            self.refused(NotAsMany, desk, "half " + numbers + " 0 0")

    def test_refused_turnings_of_many_cells(self):
        desk = desk_with("piece ######")
        self.assertEqual(desk.say("half 12 0 1 11 0"), "floor")
        desk = desk_with("piece #######")
        self.refused(TooMany, desk, "half 14 0 1 13 0")
        self.refused(TooMany, desk, "half 7 0 1 0 0")
        self.refused(NoGrid, desk, "half 14 14 1 13 0")
        self.assertEqual(desk.say("lay 7 0 1"), "floor")

    def test_who_lies_there_as_the_program_tells_it(self):
        for piece in pieces_up_to(3) + [drawn("..#/###")]:
            desk = desk_with("piece " + drawing_of(piece))
            for grid in floors_of(piece):
                self.assertEqual(desk.say("lay %d %d %d" % grid), "floor")
                self.same_places(desk, Laying(piece, grid))
            for grid, centre in turnings_of(piece):
                self.assertEqual(desk.say("half %d %d %d %d %d" % (grid + centre)), "floor")
                self.same_places(desk, Turning(piece, grid, centre))

    def same_places(self, desk, laying):
        for cell in ((0, 0), (3, -2), (-7, 5), (10 ** 30 - 1, 1 - 10 ** 30)):
            half, own, shift = laying.place_of(cell)
            between = "turned by" if half else "by"
            self.assertEqual(desk.say("who %d %d" % cell), "%d %d %s %d %d" % (*own, between, *shift))
        self.assertEqual(desk.say("window -2 3 7 4"), "/".join(window_of(laying, (-2, 3), 7, 4)))

    def test_answers_of_many_figures(self):
        desk = desk_with("piece #", "lay 1 0 1")
        self.assertEqual(desk.say(f"who {THIRTY} -{THIRTY}"), f"0 0 by {THIRTY} -{THIRTY}")
        nines = "9" * 30
        desk.say(f"half 2 0 1 -{nines} 5")
        # The turned cell's spot is (-nines, 5): the shift that leads from there has one figure more.
        self.assertEqual(desk.say(f"who {nines} -7"), f"0 0 turned by {2 * int(nines)} -12")

    def test_windows(self):
        desk = desk_with("piece ##", "lay 2 1 1")
        self.assertEqual(desk.say("window 0 0 5 3"), "ababa/babab/ababa")
        self.assertEqual(desk.say("window 1 0 1 1"), "b")
        self.assertEqual(desk.say("window 0 0 5 0"), "")
        self.assertEqual(desk.say("window 0 0 0 0"), "")
        self.assertEqual(desk.say("window 0 0 0 1"), "")
        self.assertEqual(desk.say("window 0 0 0 3"), "//")
        self.assertEqual(desk.say("window 0 0 40 2"), "ba" * 20 + "/" + "ab" * 20)
        self.assertEqual(desk.say("window 0 0 2 40"), "/".join(["ba", "ab"] * 20))
        self.assertEqual(desk.say(f"window {THIRTY} 0 2 1"), "ba")
        self.assertEqual(desk.say(f"window 0 {THIRTY} 2 1"), "ba")
        self.assertEqual(desk.say(f"window -{THIRTY} -{THIRTY} 3 2"), "bab/aba")
        self.assertEqual(desk.say("window -41 -50 3 2"), "aba/bab")
        desk.say("half 4 1 1 3 0")
        self.assertEqual(desk.say("window 0 0 5 2"), "AabBA/abBAa")
        desk.say("lay 1 0 2")
        for size in ("3 3", "0 3", "3 0", "0 0"):
            self.refused(NoFloor, desk, "window 0 0 " + size)


class NumberTest(DeskCase):
    def test_numbers(self):
        desk = desk_with("piece #", "lay 1 0 1")
        for text in ("0", "1", "-1", "10", "-10", "9" * 30, "-" + "9" * 30, THIRTY, "-" + THIRTY, "305"):
            self.assertEqual(desk.say("who " + text + " 0"), "0 0 by " + text + " 0")
            self.assertEqual(desk.say("who 0 " + text), "0 0 by 0 " + text)

    def test_what_is_no_number(self):
        wrong = ["-0", "00", "01", "-01", "007", "+1", "+0", "--1", "-", "", "1.0", "1e3", "1_0", "x", "a1", "1a", "0x1"]
        wrong += [THIRTY_ONE, "-" + THIRTY_ONE, "9" * 31, "1,0", "1-", "-+1", "one", "#", "00" * 15, "0" * 31]
        desk = desk_with("piece ##./.##", "lay 4 1 1")
        for first, rest in NUMBERED.items():
            words = rest.split(" ")
            desk.say(first + " " + rest)
            for place in range(len(words)):
                for text in wrong:
                    line = " ".join([first] + words[:place] + [text] + words[place + 1:])
                    self.refused(NoLine, desk, line)
                    self.refused(NoLine, Desk(), line)

    def test_what_is_no_turn(self):
        for desk in (desk_with("piece ##"), Desk()):
            for text in ("8", "9", "-1", "00", "01", "10", "+1", "", "-0", "k", "#", "1.", "07", "12", "01234567"):
                self.refused(NoLine, desk, "turn " + text)

    def test_columns_and_rows(self):
        for desk in (desk_with("piece #", "lay 1 0 1"), desk_with("piece ##", "lay 1 0 2"), desk_with("piece #"), Desk()):
            for size in ("41 1", "1 41", "41 41", "-1 1", "1 -1", "0 41", "41 0", f"{THIRTY} 1", f"1 -{THIRTY}"):
                self.refused(NoLine, desk, "window 0 0 " + size)
        self.assertEqual(desk_with("piece #", "lay 1 0 1").say("window 0 0 40 40"), "/".join(["a" * 40] * 40))


class LineTest(DeskCase):
    def desks(self):
        return Desk(), desk_with("piece ##"), desk_with("piece ##", "lay 2 0 1"), desk_with("piece ##", "half 4 1 1 3 0")

    def test_another_first_word(self):
        wrong = ["", " ", "x", "Floors", "FLOORS", "floor", "floorss", "Piece ##", "PIECE ##", "WORD enws", "Turn 1"]
        wrong += ["Lay 2 0 1", "LAY 2 0 1", "Half 4 1 1 3 0", "Who 0 0", "WINDOW 0 0 1 1", "partings,", "layy 2 0 1"]
        wrong += ["none", "##", "enws", "0", "say floors", "who,0 0", "floors\n", "pieces ##", "words enws", "turns 1"]
        for desk in self.desks():
            for line in wrong:
                self.refused(NoLine, desk, line)

    def test_more_or_fewer_words(self):
        wrong = ["floors ", "partings ", "floors 1", "partings none", "floors  ", "piece", "word", "turn", "lay", "half"]
        wrong += ["who", "window", "piece ## ##", "word enws enws", "turn 1 1", "lay 2 0", "lay 2 0 1 0", "lay 2"]
        wrong += ["half 4 1 1", "half 4 1 1 3", "half 4 1 1 3 0 0", "who 0", "who 0 0 0", "window 0 0", "window 0 0 1"]
        wrong += ["window 0 0 1 1 1"]
        for desk in self.desks():
            for line in wrong:
                self.refused(NoLine, desk, line)

    def test_words_without_signs(self):
        lines = ["floors", "partings", "piece ##", "word enws", "turn 1", "lay 2 0 1", "half 4 1 1 3 0", "who 0 0"]
        for desk in self.desks():
            for line in lines + ["window 0 0 1 1"]:
                self.refused(NoLine, desk, line + " ")
                self.refused(NoLine, desk, " " + line)
                self.refused(NoLine, desk, line + "  ")
                if " " in line:
                    self.refused(NoLine, desk, line.replace(" ", "  ", 1))
                    self.refused(NoLine, desk, line[::-1].replace(" ", "  ", 1)[::-1])
            self.refused(NoDrawing, desk, "piece ")
            self.refused(NoWord, desk, "word ", {"place": 0})
            for line in ("turn ", "lay 2 0 ", "lay 2  1", "who 0 ", "who  0", "window 0 0 1 ", "half 4 1 1 3 "):
                self.refused(NoLine, desk, line)

    def test_another_parting_than_one_blank(self):
        for desk in self.desks():
            for line in ("who 0\t0", "who\t0 0", "lay 2,0,1", "piece\t##", "turn\n1", "who 0 0\n"):
                self.refused(NoLine, desk, line)


class OrderTest(DeskCase):
    def test_no_line_ahead_of_nothing(self):
        for line in ("floors ", "turn 8", "lay 2 0 x", "half 4 1 1 3 -0", "who 0 01", "window 0 0 41 0", "partings x"):
            self.refused(NoLine, Desk(), line)

    def test_nothing_ahead_of_no_grid(self):
        for line in ("lay 0 0 0", "lay 2 2 1", "half 0 0 0 0 0", "lay 2 0 1", "half 4 1 1 3 0"):
            self.refused(Nothing, Desk(), line)

    def test_nothing_where_no_laying_is_kept(self):
        for desk in (Desk(), desk_with("piece ##"), desk_with("piece ##", "lay 2 0 1", "turn 0")):
            self.refused(Nothing, desk, "who 0 0")
            self.refused(Nothing, desk, "window 0 0 3 3")
            self.refused(Nothing, desk, "window 0 0 0 0")

    def test_no_line_ahead_of_the_others(self):
        desk = desk_with("piece #######", "lay 1 0 7")
        self.refused(NoLine, desk, "window 0 0 1 41")
        self.refused(NoLine, desk, "who 0 -0")
        self.refused(NoLine, desk, "half 0 0 0 0 -0")
        self.refused(NoFloor, desk, "who 0 0")

    def test_no_grid_too_many_not_as_many(self):
        desk = desk_with("piece #######")
        self.refused(NoGrid, desk, "half 3 3 3 0 0")
        self.refused(TooMany, desk, "half 3 2 3 0 0")
        self.refused(NotAsMany, desk, "lay 3 2 3")
        self.refused(NoGrid, desk, "lay 3 3 3")

    def test_a_laying_that_is_no_floor_is_kept(self):
        desk = desk_with("piece ##")
        self.refused(Nothing, desk, "who 0 0")
        self.assertEqual(desk.say("lay 1 0 2"), "meet")
        self.refused(NoFloor, desk, "who 0 0")
        self.refused(NoFloor, desk, "window 0 0 0 0")


class NothingChangedTest(DeskCase):
    def test_what_is_refused_changes_nothing(self):
        wrong = ["", "floors ", "piece ", "piece #.#", "piece ###/#.#/###", "piece " + "#" * 11, "piece .", "piece x"]
        wrong += ["word ", "word enx", "word en", "word ewew", "word nesw", "word " + "e" * 11 + "n" + "w" * 11 + "s"]
        wrong += ["turn 8", "turn ", "lay 0 0 0", "lay 3 0 1", "lay 2 0 x", "half 0 0 0 0 0", "half 2 0 1 0 0"]
        wrong += ["half 4 1 1 3 -0", "who x 0", "window 0 0 41 0", "window 0 0 0 -1", "lay 2 2 1"]
        for lines in (
            [], ["piece ##"], ["piece ##", "lay 2 1 1"], ["piece ##", "lay 1 0 2"], ["piece ##", "half 4 1 1 3 0"],
        ):
            desk = desk_with(*lines)
            before = self.kept(desk)
            for line in wrong:
                with self.assertRaises(FloorError):
                    desk.say(line)
                self.assertEqual(self.kept(desk), before, line)

    def test_too_many_for_a_turning_leaves_the_laying(self):
        desk = desk_with("piece #######", "lay 7 3 1")
        before = self.kept(desk)
        self.refused(TooMany, desk, "half 14 0 1 13 0")
        self.assertEqual(self.kept(desk), before)

    def test_two_desks_side_by_side(self):
        one = Desk()
        other = Desk()
        one.say("piece ##")
        self.refused(Nothing, other, "floors")
        other.say("piece #/#")
        self.assertEqual(one.say("lay 2 0 1"), "floor")
        self.refused(Nothing, other, "who 0 0")
        self.assertEqual(other.say("lay 1 0 2"), "floor")
        self.assertEqual(one.say("floors"), "2,0,1 2,1,1")
        self.assertEqual(other.say("floors"), "1,0,2 2,1,1")
        self.assertEqual(one.say("who 1 1"), "1 0 by 0 1")
        self.assertEqual(other.say("who 1 1"), "0 1 by 1 0")
        one.say("turn 1")
        self.assertEqual(other.say("window 0 0 2 2"), "bb/aa")

    def test_answers_are_texts(self):
        desk = Desk()
        for line in ("piece ##", "word eenwws", "turn 2", "floors", "partings", "lay 2 0 1", "who 0 0", "window 0 0 0 0"):
            self.assertIs(type(desk.say(line)), str)


if __name__ == "__main__":
    unittest.main()
