"""Windows: who lies on the cells of a part of a floor, as texts."""

from borderfloor.errors import NoFloor

LETTERS = "abcdefghij"


def letter_on(laying, cell):
    place = laying.place_of(cell)
    letter = LETTERS[laying.piece.index(place[1])]
    return letter.upper() if place[0] else letter


def window_of(laying, cell, wide, high):
    # Asked ahead of all cells, as a window may have none.
    if not laying.is_floor():
        raise NoFloor("a window shows floors alone")
    rows = []
    for y in range(cell[1] + high - 1, cell[1] - 1, -1):
        row = [letter_on(laying, (x, y)) for x in range(cell[0], cell[0] + wide)]
        rows.append("".join(row))
    return rows
