"""Words of the four letters: steps from corner to corner."""

from borderfloor.cells import added
from borderfloor.turns import turned

STEPS = {"e": (1, 0), "n": (0, 1), "w": (-1, 0), "s": (0, -1)}
OPPOSITES = {"e": "w", "n": "s", "w": "e", "s": "n"}


def corners_of(corner, word):
    corners = [corner]
    for letter in word:
        corners.append(added(corners[-1], STEPS[letter]))
    return corners


def way_of(word):
    return corners_of((0, 0), word)[-1]


def backwards(word):
    return "".join([OPPOSITES[letter] for letter in reversed(word)])


def turned_letter(letter, k):
    step = turned(STEPS[letter], k)
    return [other for other in STEPS if STEPS[other] == step][0]


def turned_word(word, k):
    return "".join([turned_letter(letter, k) for letter in word])


def begun_at(word, place):
    return word[place:] + word[:place]


def area_of(word):
    area = 0
    for corner, letter in zip(corners_of((0, 0), word), word):
        if letter == "n":
            area += corner[0]
        if letter == "s":
            area -= corner[0]
    return area
