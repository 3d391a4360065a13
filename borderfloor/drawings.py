"""Pieces drawn as texts, and drawings read to pieces."""

from borderfloor.errors import NoDrawing
from borderfloor.pieces import piece_of, settled

CROSS = "#"
POINT = "."
PARTER = "/"


def drawing_of(piece):
    xs = [cell[0] for cell in piece]
    ys = [cell[1] for cell in piece]
    rows = []
    for y in range(max(ys), min(ys) - 1, -1):
        row = [CROSS if (x, y) in piece else POINT for x in range(min(xs), max(xs) + 1)]
        rows.append("".join(row))
    return "/".join(rows)


def rows_of(text):
    rows = text.split(PARTER)
    for row in rows:
        if row == "":
            raise NoDrawing("a row is empty")
        if len(row) != len(rows[0]):
            raise NoDrawing("the rows have unlike lengths")
        if row.count(CROSS) + row.count(POINT) != len(row):
            raise NoDrawing("there is another sign than the three of drawings")
    return rows


def cells_in(rows):
    cells = []
    for y, row in enumerate(reversed(rows)):
        for x, sign in enumerate(row):
            if sign == CROSS:
                cells.append((x, y))
    return cells


def read_drawing(text):
    # The piece is settled only when it is made: the refusals tell cells as they stand in the text.
    return settled(piece_of(cells_in(rows_of(text))))
