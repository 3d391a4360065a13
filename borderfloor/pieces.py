"""Pieces: made of a list of cells, moved, settled."""

from borderfloor.cells import added, around, in_order
from borderfloor.errors import Apart, Hole, NoPiece, TooMany

MOST_CELLS = 10


def unlike_in_order(some):
    unlike = []
    for cell in in_order(some):
        # In this order like cells stand side by side, so the last one kept is enough to look at.
        if len(unlike) == 0 or unlike[-1] != cell:
            unlike.append(cell)
    return unlike


def reached_within(some, start):
    free = dict([(cell, True) for cell in some])
    reached = {start: True}
    waiting = [start]
    while len(waiting) > 0:
        cell = waiting.pop()
        for near in around(cell):
            if near in free and near not in reached:
                reached[near] = True
                waiting.append(near)
    return reached


def first_cut_off(some):
    reached = reached_within(some, some[0])
    for cell in some:
        if cell not in reached:
            return cell
    return None


# The box is wider than the cells by one on each side: this rim is empty and hangs together, and
# each way far out comes through it. So what is not joined to the rim within the box is shut in.
def empty_in_box(cells):
    xs = [cell[0] for cell in cells]
    ys = [cell[1] for cell in cells]
    empty = []
    for y in range(min(ys) - 1, max(ys) + 2):
        for x in range(min(xs) - 1, max(xs) + 2):
            if (x, y) not in cells:
                empty.append((x, y))
    return empty


def piece_of(some):
    cells = unlike_in_order(some)
    if len(cells) == 0:
        raise NoPiece("there is no cell")
    if len(cells) > MOST_CELLS:
        raise TooMany("there are more than ten unlike cells")
    apart = first_cut_off(cells)
    if apart is not None:
        raise Apart(apart)
    # Only now is the box small: cells that do not hang together may lie any way apart.
    shut_in = first_cut_off(empty_in_box(cells))
    if shut_in is not None:
        raise Hole(shut_in)
    return tuple(cells)


def moved(piece, shift):
    # A shift keeps the order of cells, so the cells need no new ordering.
    return tuple([added(cell, shift) for cell in piece])


def settled(piece):
    least_x = min([cell[0] for cell in piece])
    least_y = min([cell[1] for cell in piece])
    return moved(piece, (-least_x, -least_y))
