"""Words: corners, ways, words gone backwards, turned, begun elsewhere [10], and areas [11]."""

import itertools
import random
import unittest

from borderfloor.turns import turn_back, turn_behind, turned
from borderfloor.words import area_of, backwards, begun_at, corners_of, turned_word, way_of
from helper import BIG

STEPS = {"e": (1, 0), "n": (0, 1), "w": (-1, 0), "s": (0, -1)}
SHORT = ["".join(letters) for length in range(5) for letters in itertools.product("enws", repeat=length)]
LONG = "eennwsw" * 8 + "enws"


class CornersTest(unittest.TestCase):
    def test_each_letter(self):
        self.assertEqual(corners_of((5, 7), "e"), [(5, 7), (6, 7)])
        self.assertEqual(corners_of((5, 7), "n"), [(5, 7), (5, 8)])
        self.assertEqual(corners_of((5, 7), "w"), [(5, 7), (4, 7)])
        self.assertEqual(corners_of((5, 7), "s"), [(5, 7), (5, 6)])

    def test_behind_each_letter(self):
        self.assertEqual(corners_of((0, 0), "enws"), [(0, 0), (1, 0), (1, 1), (0, 1), (0, 0)])
        self.assertEqual(corners_of((-1, 2), "essw"), [(-1, 2), (0, 2), (0, 1), (0, 0), (-1, 0)])

    def test_the_word_without_letters(self):
        self.assertEqual(corners_of((3, -4), ""), [(3, -4)])

    def test_from_a_corner_of_sixty_figures(self):
        self.assertEqual(
            corners_of((BIG, -BIG), "ens"), [(BIG, -BIG), (BIG + 1, -BIG), (BIG + 1, 1 - BIG), (BIG + 1, -BIG)]
        )
        self.assertEqual(corners_of((-BIG, BIG), "wn"), [(-BIG, BIG), (-BIG - 1, BIG), (-BIG - 1, BIG + 1)])

    def test_one_more_than_letters(self):
        self.assertEqual(len(LONG), 60)
        self.assertEqual(len(corners_of((0, 0), LONG)), 61)

    def test_the_told_list_is_the_askers_own(self):
        told = corners_of((1, 1), "en")
        self.assertIs(type(told), list)
        for corner in told:
            self.assertIs(type(corner), tuple)
        told.clear()
        self.assertEqual(corners_of((1, 1), "en"), [(1, 1), (2, 1), (2, 2)])
        one = corners_of((1, 1), "")
        one.append((9, 9))
        self.assertEqual(corners_of((1, 1), ""), [(1, 1)])


class WayTest(unittest.TestCase):
    def test_sums_of_steps(self):
        self.assertEqual(way_of("e"), (1, 0))
        self.assertEqual(way_of("n"), (0, 1))
        self.assertEqual(way_of("w"), (-1, 0))
        self.assertEqual(way_of("s"), (0, -1))
        self.assertEqual(way_of("eennwse"), (2, 1))
        self.assertEqual(way_of("enws"), (0, 0))
        self.assertEqual(way_of("s" * 60), (0, -60))

    def test_the_word_without_letters(self):
        self.assertEqual(way_of(""), (0, 0))

    def test_each_short_word(self):
        for word in SHORT:
            way = way_of(word)
            self.assertIs(type(way), tuple)
            self.assertEqual(way, (word.count("e") - word.count("w"), word.count("n") - word.count("s")))
            self.assertEqual(corners_of((3, 4), word)[-1], (3 + way[0], 4 + way[1]))


class BackwardsTest(unittest.TestCase):
    def test_each_letter(self):
        self.assertEqual([backwards(letter) for letter in "enws"], ["w", "s", "e", "n"])

    def test_from_the_last_letter_to_the_first(self):
        self.assertEqual(backwards("een"), "sww")
        self.assertEqual(backwards("enws"), "nesw")
        self.assertEqual(backwards("ne"), "ws")

    def test_the_word_without_letters(self):
        self.assertEqual(backwards(""), "")

    def test_twice(self):
        for word in SHORT + [LONG]:
            self.assertEqual(backwards(backwards(word)), word)

    def test_the_same_corners_from_the_other_end(self):
        for word in SHORT + [LONG]:
            corners = corners_of((2, 3), word)
            self.assertEqual(corners_of(corners[-1], backwards(word)), corners[::-1])


class TurnedTest(unittest.TestCase):
    def test_each_letter_by_each_turn(self):
        expected = ["enws", "nwse", "wsen", "senw", "wnes", "swne", "eswn", "nesw"]
        self.assertEqual([turned_word("enws", k) for k in range(8)], expected)
        for letter, k in itertools.product("enws", range(8)):
            self.assertEqual(STEPS[turned_word(letter, k)], turned(STEPS[letter], k))

    def test_letter_by_letter(self):
        self.assertEqual(turned_word("eenw", 1), "nnws")
        self.assertEqual(turned_word("eenw", 4), "wwne")
        self.assertEqual(turned_word("eenw", 6), "eesw")

    def test_the_word_without_letters(self):
        for k in range(8):
            self.assertEqual(turned_word("", k), "")

    def test_turned_and_turned_back_and_one_turn_behind_another(self):
        for word, k in itertools.product(SHORT[:90] + [LONG], range(8)):
            self.assertEqual(turned_word(turned_word(word, k), turn_back(k)), word)
            self.assertEqual(way_of(turned_word(word, k)), turned(way_of(word), k))
        for k, j in itertools.product(range(8), repeat=2):
            self.assertEqual(turned_word(turned_word(LONG, k), j), turned_word(LONG, turn_behind(k, j)))


class BegunTest(unittest.TestCase):
    def test_at_nought_at_its_length_and_between(self):
        self.assertEqual([begun_at("eenw", place) for place in range(5)], ["eenw", "enwe", "nwee", "ween", "eenw"])

    def test_the_word_without_letters(self):
        self.assertEqual(begun_at("", 0), "")

    def test_one_letter(self):
        self.assertEqual([begun_at("s", 0), begun_at("s", 1)], ["s", "s"])

    def test_sixty_letters(self):
        for place in range(61):
            there = begun_at(LONG, place)
            self.assertEqual(len(there), 60)
            self.assertEqual(begun_at(there, 60 - place), LONG)
            self.assertEqual([there[k] for k in range(60)], [LONG[(place + k) % 60] for k in range(60)])


class AreaTest(unittest.TestCase):
    def test_gone_round_to_the_left(self):
        self.assertEqual(area_of("enws"), 1)
        self.assertEqual(area_of("eenwws"), 2)
        self.assertEqual(area_of("eeennnwwwsss"), 9)
        self.assertEqual(area_of("e" * 10 + "n" + "w" * 10 + "s"), 10)
        self.assertEqual(area_of("eenwnwss"), 3)

    def test_gone_round_to_the_right(self):
        self.assertEqual(area_of("nesw"), -1)
        self.assertEqual(area_of("nneessww"), -4)

    def test_closed_words_begun_elsewhere_backwards_and_turned(self):
        for word, area in (("enws", 1), ("eenwws", 2), ("nneessww", -4), ("ew", 0), ("enwsnesw", 0)):
            for place in range(len(word) + 1):
                self.assertEqual(area_of(begun_at(word, place)), area)
                self.assertEqual(area_of(backwards(begun_at(word, place))), -area)
        for k in range(8):
            self.assertEqual(area_of(turned_word("eenwws", k)), 2 if k < 4 else -2)

    def test_no_area(self):
        for word in ("", "e", "w", "ew", "ns", "eeww", "nnss", "enwsnesw"):
            self.assertEqual(area_of(word), 0)

    def test_round_twice(self):
        self.assertEqual(area_of("enwsenws"), 2)
        self.assertEqual(area_of("neswnesw"), -2)

    def test_words_that_are_not_closed(self):
        # Three steps east, then north there; one step east, two south, two east, north.
        self.assertEqual(area_of("eeen"), 3)
        self.assertEqual(area_of("esseen"), -1 - 1 + 3)
        self.assertEqual(area_of("wn"), -1)
        self.assertEqual(area_of("ws"), 1)
        self.assertEqual(area_of("nnn"), 0)
        self.assertEqual(area_of("ene"), 1)

    def test_as_the_document_tells_it(self):
        chance = random.Random(11)
        for number in range(300):
            word = "".join(chance.choice("enws") for place in range(chance.randint(0, 60)))
            area = 0
            for place, letter in enumerate(word):
                x = word[:place].count("e") - word[:place].count("w")
                area += {"n": x, "s": -x}.get(letter, 0)
            self.assertIs(type(area_of(word)), int)
            self.assertEqual(area_of(word), area)


if __name__ == "__main__":
    unittest.main()
