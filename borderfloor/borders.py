"""The border of a piece as a word, and the piece inside a word."""

from borderfloor.cells import added
from borderfloor.errors import Backward, Crossed, NoWord, Open, TooMany
from borderfloor.pieces import MOST_CELLS
from borderfloor.words import STEPS, area_of, corners_of, way_of


# Each side is told as (corner, letter, cell across), gone with the cell at the left hand, as the
# border goes.
def sides_of(cell):
    x = cell[0]
    y = cell[1]
    return [
        ((x, y), "e", (x, y - 1)),
        ((x + 1, y), "n", (x + 1, y)),
        ((x + 1, y + 1), "w", (x, y + 1)),
        ((x, y + 1), "s", (x - 1, y)),
    ]


# Each corner begins one side of the border at most: where two cells of the piece touched at a
# corner alone, one of the other two cells there would be shut in.
def letters_by_corner(piece):
    letters = {}
    for cell in piece:
        for side in sides_of(cell):
            if side[2] not in piece:
                letters[side[0]] = side[1]
    return letters


def border_of(piece):
    letters = letters_by_corner(piece)
    start = piece[0]
    word = ""
    corner = start
    while word == "" or corner != start:
        letter = letters[corner]
        word += letter
        corner = added(corner, STEPS[letter])
    return (start, word)


def check_letters(word):
    if word == "":
        raise NoWord(0)
    for place, letter in enumerate(word):
        if letter not in STEPS:
            raise NoWord(place)


# Of a closed word: its last letter leads to the first corner, and that is no crossing.
def check_crossings(word):
    corners = corners_of((0, 0), word)
    seen = {corners[0]: True}
    for place in range(len(word) - 1):
        corner = corners[place + 1]
        if corner in seen:
            raise Crossed(place)
        seen[corner] = True


def upright_sides(corner, word):
    rows = {}
    for here, letter in zip(corners_of(corner, word), word):
        if letter == "n":
            rows.setdefault(here[1], []).append(here[0])
        if letter == "s":
            rows.setdefault(here[1] - 1, []).append(here[0])
    return rows


# Going east along a row one comes in over its first upright side, out over the second, and so on.
def cells_within(corner, word):
    rows = upright_sides(corner, word)
    cells = []
    for y in sorted(rows):
        xs = sorted(rows[y])
        for k in range(0, len(xs), 2):
            cells.extend([(x, y) for x in range(xs[k], xs[k + 1])])
    return cells


def inside_of(corner, word):
    check_letters(word)
    way = way_of(word)
    if way != (0, 0):
        raise Open(way)
    check_crossings(word)
    area = area_of(word)
    if area <= 0:
        raise Backward("the word does not go round cells at its left hand")
    if area > MOST_CELLS:
        raise TooMany("the word goes round more than ten cells")
    return tuple(cells_within(corner, word))
