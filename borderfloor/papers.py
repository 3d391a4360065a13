"""Papers that show of a piece and a grid that it is a floor, or that two cells meet; and their looker."""

from borderfloor.cells import taken
from borderfloor.grids import numbers_of, rest_of, rests_in, shift_of
from borderfloor.layings import Laying


def table_of(piece, grid):
    return dict([(rest_of(grid, own), own) for own in piece])


def paper_of(piece, grid):
    pair = Laying(piece, grid).meets()
    if pair is None:
        return ("floor", table_of(piece, grid))
    one = pair[0][1]
    other = pair[1][1]
    numbers = numbers_of(grid, taken(one, other))
    return ("meet", one, other, numbers[0], numbers[1])


def shows_floor(piece, grid, table):
    asked = table_of(piece, grid)
    # With as many rests as cells, a table of fewer rows leaves rests out, as two cells meet.
    return len(asked) == len(piece) and table == asked


def shows_meet(piece, grid, paper):
    one = paper[1]
    other = paper[2]
    if one not in piece or other not in piece or one == other:
        return False
    return taken(one, other) == shift_of(grid, paper[3], paper[4])


def shows(piece, grid, paper):
    if rests_in(grid) != len(piece):
        return False
    if paper[0] == "floor":
        return shows_floor(piece, grid, paper[1])
    return shows_meet(piece, grid, paper)
