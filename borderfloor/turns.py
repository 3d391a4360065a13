"""The eight turns: of pairs, of pieces, and of one another."""

from borderfloor.cells import in_order


def turned(pair, k):
    x = pair[0]
    y = pair[1]
    if k >= 4:
        x = -x
    quarters = k % 4
    if quarters == 1:
        return (-y, x)
    if quarters == 2:
        return (-x, -y)
    if quarters == 3:
        return (y, -x)
    return (x, y)


def turned_piece(piece, k):
    return tuple(in_order([turned(cell, k) for cell in piece]))


def turn_behind(k, j):
    if j < 4:
        mirrored = k // 4
        quarters = (j + k) % 4
    else:
        # Quarters to the left ahead of a mirroring are as many to the right behind it.
        mirrored = 1 - k // 4
        quarters = (j - k) % 4
    return 4 * mirrored + quarters


def turn_back(k):
    # A turn that mirrors undoes itself.
    if k >= 4:
        return k
    return (4 - k) % 4
