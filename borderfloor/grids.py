"""Grids: their shifts and rests, grids made of shifts, grids turned."""

from borderfloor.cells import taken
from borderfloor.errors import NoGrid
from borderfloor.turns import turned


def rests_in(grid):
    return grid[0] * grid[2]


def shift_of(grid, i, j):
    return (i * grid[0] + j * grid[1], j * grid[2])


# Rounded down, below 0 too: so what is left of a pair lies among the rests.
def whole_steps(grid, pair):
    j = pair[1] // grid[2]
    i = (pair[0] - j * grid[1]) // grid[0]
    return (i, j)


def leads_to(grid, cell):
    steps = whole_steps(grid, cell)
    return shift_of(grid, steps[0], steps[1])


def rest_of(grid, cell):
    return taken(cell, leads_to(grid, cell))


def numbers_of(grid, shift):
    if rest_of(grid, shift) != (0, 0):
        return None
    return whole_steps(grid, shift)


def common_measure(one, other):
    while other != 0:
        rest = one % other
        one = other
        other = rest
    return abs(one)


# Taking one of two shifts from the other leaves all their sums as they are, and the y become less
# and less until the second one is 0.
def levelled(one, other):
    while other[1] != 0:
        times = one[1] // other[1]
        rest = (one[0] - times * other[0], one[1] - times * other[1])
        one = other
        other = rest
    return (one, other)


def grid_of(shifts):
    # All sums of the shifts walked so far are the sums of (east, 0) and north.
    east = 0
    north = (0, 0)
    for shift in shifts:
        pair = levelled(north, shift)
        north = pair[0]
        east = common_measure(east, pair[1][0])
        if east != 0:
            # So the numbers stay small, however many shifts there are.
            north = (north[0] % east, north[1])
    if east == 0 or north[1] == 0:
        raise NoGrid("all shifts lie on one line, or there are none")
    if north[1] < 0:
        north = (-north[0] % east, -north[1])
    return (east, north[0], north[1])


def turned_grid(grid, k):
    return grid_of([turned(shift_of(grid, 1, 0), k), turned(shift_of(grid, 0, 1), k)])
