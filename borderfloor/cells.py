"""Cells of the plane: their order, their neighbours, sums and differences."""


# Pairs are compared by their first number first, and the order of cells asks for y first.
def rank_of(cell):
    return (cell[1], cell[0])


def before(one, other):
    return rank_of(one) < rank_of(other)


def in_order(some):
    return sorted(some, key=rank_of)


def around(cell):
    x = cell[0]
    y = cell[1]
    return [(x + 1, y), (x, y + 1), (x - 1, y), (x, y - 1)]


def added(one, other):
    return (one[0] + other[0], one[1] + other[1])


def taken(one, other):
    return (one[0] - other[0], one[1] - other[1])
