"""Words parted in stretches [23], the shifts of stretches and the grids they make [24]."""

import itertools
import random
import unittest

from borderfloor.borders import border_of
from borderfloor.grids import numbers_of, rests_in
from borderfloor.layings import floors_of
from borderfloor.partings import grid_by, partings_of, shifts_by, stretches_of
from borderfloor.words import begun_at, corners_of
from helper import chance_pieces, drawn, pieces_up_to

OPPOSITE = {"e": "w", "n": "s", "w": "e", "s": "n"}


def letters(word, start, end):
    """All letters of a round from a place up to another one."""
    return "".join(word[place % len(word)] for place in range(start, end))


def spans(word, cuts):
    half = len(word) // 2
    return [(cut, cuts[k + 1] if k + 1 < len(cuts) else cuts[0] + half) for k, cut in enumerate(cuts)]


def asked_partings(word):
    if len(word) % 2:
        return []
    half = len(word) // 2
    found = []
    for many in (2, 3):
        for cuts in itertools.combinations(range(half), many):
            pairs = [(letters(word, *span), letters(word, span[0] + half, span[1] + half)) for span in spans(word, cuts)]
            if all(fellow == "".join(OPPOSITE[letter] for letter in own[::-1]) for own, fellow in pairs):
                found.append(cuts)
    return found


class PartingsTest(unittest.TestCase):
    def test_told_by_hand(self):
        self.assertEqual(partings_of("enws"), [(0, 1)])
        self.assertEqual(partings_of("eenwws"), [(0, 2), (0, 1, 2)])
        self.assertEqual(partings_of("nwse"), [(0, 1)])
        self.assertEqual(partings_of("eennwwss"), [(0, 2), (0, 1, 2), (0, 2, 3)])

    def test_two_cuts_first_then_by_the_first_unlike_cut(self):
        for piece in pieces_up_to(6):
            told = partings_of(border_of(piece)[1])
            self.assertEqual(told, sorted(told, key=lambda cuts: (len(cuts), cuts)))
            self.assertEqual(len(told), len(set(told)))
        row = partings_of("eeeeenwwwwws")
        self.assertEqual(row, [(0, 5), (0, 1, 5), (0, 2, 5), (0, 3, 5), (0, 4, 5)])

    def test_a_parting_with_no_cut_at_nought(self):
        self.assertEqual(partings_of(begun_at("eenwws", 1)), [(1, 2), (0, 1, 2)])
        self.assertEqual(partings_of(begun_at("eeenwwws", 1)), [(2, 3), (0, 2, 3), (1, 2, 3)])

    def test_odd_numbers_of_letters_and_no_letters(self):
        self.assertEqual(partings_of(""), [])
        for word in ("e", "enw", "enwse", "eenwwse", "e" * 59):
            self.assertEqual(partings_of(word), [])

    def test_two_letters_leave_room_for_one_cut_only(self):
        for word in ("ew", "we", "ns", "ee", "en"):
            self.assertEqual(partings_of(word), [])

    def test_four_letters(self):
        for tuple_of_letters in itertools.product("enws", repeat=4):
            word = "".join(tuple_of_letters)
            opposite = OPPOSITE[word[0]] == word[2] and OPPOSITE[word[1]] == word[3]
            self.assertEqual(partings_of(word), [(0, 1)] if opposite else [])

    def test_words_that_go_round_no_piece(self):
        self.assertEqual(partings_of("nesw"), [(0, 1)])
        self.assertEqual(partings_of("eeww"), [(0, 1)])
        self.assertEqual(partings_of("ewew"), [])
        self.assertEqual(partings_of("eeee"), [])
        self.assertEqual(partings_of("eeewww"), [(0, 1), (0, 2), (0, 1, 2)])

    def test_as_the_document_tells_it(self):
        chance = random.Random(23)
        words = [border_of(piece)[1] for piece in pieces_up_to(5) + chance_pieces(10, 30, 25)]
        for number in range(200):
            half = "".join(chance.choice("enws"[:chance.randint(1, 4)]) for place in range(chance.randint(1, 6)))
            words.append(half + "".join(chance.choice("enws") for letter in half))
            words.append(half + "".join(OPPOSITE[letter] for letter in half))
            words.append(half + "".join(OPPOSITE[letter] for letter in half[::-1]))
        some = 0
        for word in words:
            word = begun_at(word, chance.randint(0, len(word)))
            expected = asked_partings(word)
            some += bool(expected)
            self.assertEqual(partings_of(word), expected, word)
        self.assertGreater(some, 100)

    def test_sixty_letters(self):
        self.assertEqual(partings_of("e" * 29 + "n" + "w" * 29 + "s"), [(0, 29)] + [(0, k, 29) for k in range(1, 29)])
        self.assertEqual(len(partings_of("e" * 30 + "w" * 30)), 29 + 29 * 28 // 2)
        self.assertEqual(partings_of("e" * 60), [])

    def test_the_told_list_is_the_askers_own(self):
        told = partings_of("eenwws")
        self.assertIs(type(told), list)
        for cuts in told:
            self.assertIs(type(cuts), tuple)
            self.assertEqual({type(cut) for cut in cuts}, {int})
        told.clear()
        self.assertEqual(partings_of("eenwws"), [(0, 2), (0, 1, 2)])


class StretchesTest(unittest.TestCase):
    def test_of_partings(self):
        self.assertEqual(stretches_of("enws", (0, 1)), ["e", "n"])
        self.assertEqual(stretches_of("eenwws", (0, 2)), ["ee", "n"])
        self.assertEqual(stretches_of("eenwws", (0, 1, 2)), ["e", "e", "n"])
        self.assertEqual(stretches_of("enwwse", (1, 2)), ["n", "ww"])

    def test_of_cuts_that_are_no_parting(self):
        self.assertEqual(stretches_of("eenwws", (1, 2)), ["e", "nw"])
        self.assertEqual(stretches_of("eenwws", (0, 1)), ["e", "en"])
        self.assertEqual(stretches_of("eeeennnn", (1, 3)), ["ee", "en"])
        self.assertEqual(stretches_of("eeeennnn", (0, 1, 3)), ["e", "ee", "e"])

    def test_the_last_one_ends_half_the_word_behind_the_first_cut(self):
        self.assertEqual(stretches_of("eeeennnn", (2, 3)), ["e", "enn"])
        word = "eennwwsswsenwnee"
        for many in (2, 3):
            for cuts in itertools.combinations(range(8), many):
                told = stretches_of(word, cuts)
                self.assertEqual(told, [letters(word, *span) for span in spans(word, cuts)])
                self.assertEqual("".join(told), word[cuts[0]:cuts[0] + 8])

    def test_sixty_letters(self):
        word = "e" * 29 + "n" + "w" * 29 + "s"
        self.assertEqual(stretches_of(word, (0, 10, 29)), ["e" * 10, "e" * 19, "n"])

    def test_the_told_list_is_the_askers_own(self):
        told = stretches_of("enws", (0, 1))
        self.assertIs(type(told), list)
        told.clear()
        self.assertEqual(stretches_of("enws", (0, 1)), ["e", "n"])


class ShiftsTest(unittest.TestCase):
    def test_of_partings(self):
        self.assertEqual(shifts_by("enws", (0, 1)), [(0, -1), (1, 0)])
        self.assertEqual(shifts_by("eenwws", (0, 2)), [(0, -1), (2, 0)])
        self.assertEqual(shifts_by("eenwws", (0, 1, 2)), [(-1, -1), (1, -1), (2, 0)])

    def test_of_other_cuts_of_a_closed_word(self):
        # Corners (0, 0), (1, 0), (2, 0), (2, 1), (1, 1), (0, 1).
        self.assertEqual(shifts_by("eenwws", (1, 2)), [(1, -1), (1, 0)])
        self.assertEqual(shifts_by("eenwws", (0, 1)), [(-1, -1), (1, 0)])
        self.assertEqual(shifts_by("ewew", (0, 1)), [(-1, 0), (1, 0)])

    def test_the_beginning_of_the_stretch_less_the_end_of_its_fellow(self):
        words = [border_of(piece)[1] for piece in pieces_up_to(4) + chance_pieces(7, 5, 26)]
        for word in words + ["eewwnnss", "eswneswn"]:
            corners = corners_of((0, 0), word)
            half = len(word) // 2
            for many in (2, 3):
                for cuts in itertools.combinations(range(half), many):
                    expected = []
                    for start, end in spans(word, cuts):
                        ends = corners[(end + half) % len(word)]
                        expected.append((corners[start][0] - ends[0], corners[start][1] - ends[1]))
                    self.assertEqual(shifts_by(word, cuts), expected)

    def test_the_shift_lays_the_fellow_on_the_stretch(self):
        for piece in pieces_up_to(5):
            word = border_of(piece)[1]
            corners = corners_of((0, 0), word)[:-1]
            half = len(word) // 2
            for cuts in partings_of(word):
                for shift, (start, end) in zip(shifts_by(word, cuts), spans(word, cuts)):
                    stretch = [corners[place % len(word)] for place in range(start, end + 1)]
                    fellow = [corners[place % len(word)] for place in range(start + half, end + half + 1)]
                    self.assertEqual([(x + shift[0], y + shift[1]) for x, y in fellow][::-1], stretch)

    def test_the_told_list_is_the_askers_own(self):
        told = shifts_by("enws", (0, 1))
        self.assertIs(type(told), list)
        for shift in told:
            self.assertIs(type(shift), tuple)
        told.clear()
        self.assertEqual(shifts_by("enws", (0, 1)), [(0, -1), (1, 0)])


class GridTest(unittest.TestCase):
    def test_told_by_hand(self):
        self.assertEqual(grid_by("enws", (0, 1)), (1, 0, 1))
        self.assertEqual(grid_by("eenwws", (0, 2)), (2, 0, 1))
        self.assertEqual(grid_by("eenwws", (0, 1, 2)), (2, 1, 1))
        self.assertEqual(grid_by("ennwss", (0, 1)), (1, 0, 2))

    def test_of_each_parting_begun_at_any_place(self):
        for piece in pieces_up_to(5) + chance_pieces(8, 10, 27) + [drawn("#####/#####"), drawn("##########")]:
            word = border_of(piece)[1]
            for place in range(len(word) + 1):
                there = begun_at(word, place)
                grids = []
                for cuts in partings_of(there):
                    grid = grid_by(there, cuts)
                    self.assertIs(type(grid), tuple)
                    self.assertEqual(rests_in(grid), len(piece))
                    for shift in shifts_by(there, cuts):
                        self.assertIsNotNone(numbers_of(grid, shift))
                    grids.append(grid)
                self.assertEqual(sorted(grids), floors_of(piece))


if __name__ == "__main__":
    unittest.main()
