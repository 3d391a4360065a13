"""What several tests share: numbers and pieces to try, found without the program."""

import itertools
import random

from borderfloor.errors import FloorError

# The greatest whole number of sixty figures, and some far-out shifts made of it.
BIG = 10 ** 60 - 1
FAR = ((BIG, BIG), (-BIG, BIG), (BIG, -BIG), (-BIG, -BIG))


def near(cell):
    x, y = cell
    return {(x + 1, y), (x - 1, y), (x, y + 1), (x, y - 1)}


def ordered(cells):
    return tuple(sorted(cells, key=lambda cell: (cell[1], cell[0])))


def shifted(cells, shift):
    return tuple((x + shift[0], y + shift[1]) for x, y in cells)


def put_to_nought(cells):
    return shifted(cells, (-min(x for x, y in cells), -min(y for x, y in cells)))


def has_hole(cells):
    """Whether a cell of the settled cells' box is shut in, sought from the rim round the box."""
    wide = max(x for x, y in cells) + 2
    high = max(y for x, y in cells) + 2
    empty = set(itertools.product(range(-1, wide), range(-1, high))) - set(cells)
    reached = {(-1, -1)}
    waiting = [(-1, -1)]
    while waiting:
        fresh = near(waiting.pop()) & empty - reached
        reached |= fresh
        waiting.extend(fresh)
    return reached != empty


def pieces_with(count):
    """All settled pieces of so many cells."""
    found = {frozenset([(0, 0)])}
    for number in range(count - 1):
        larger = set()
        for cells in found:
            for cell in set().union(*map(near, cells)) - cells:
                larger.add(frozenset(put_to_nought(cells | {cell})))
        found = larger
    return sorted(ordered(cells) for cells in found if not has_hole(cells))


def pieces_up_to(count):
    return [piece for number in range(1, count + 1) for piece in pieces_with(number)]


def chance_pieces(count, times, seed):
    """Some settled pieces of so many cells, grown cell by cell, the same ones for the same seed."""
    chance = random.Random(seed)
    found = []
    while len(found) < times:
        cells = {(0, 0)}
        while len(cells) < count:
            cells.add(chance.choice(sorted(set().union(*map(near, cells)) - cells)))
        piece = ordered(put_to_nought(cells))
        if not has_hole(piece):
            found.append(piece)
    return found


def drawn(text):
    """The settled cells of a drawing that leaves no row or column empty."""
    rows = text.split("/")[::-1]
    return ordered((x, y) for y, row in enumerate(rows) for x, sign in enumerate(row) if sign == "#")


def differ_by_shift(grid, one, other):
    """Whether one cell is the other one moved by a shift of the grid."""
    a, b, d = grid
    north, left = divmod(one[1] - other[1], d)
    return left == 0 and (one[0] - other[0] - north * b) % a == 0


def refusal(ask, *handed):
    """The class of the refusal with which a call ends, or None."""
    try:
        ask(*handed)
    except FloorError as error:
        return type(error)
    return None
