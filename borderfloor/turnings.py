"""Floors in which half-turned pieces stand between the others."""

from borderfloor.allgrids import grids_of
from borderfloor.cells import taken
from borderfloor.errors import TooMany
from borderfloor.layings import Laying

MOST_TURNED = 6


def half_turned(cell, centre):
    return taken(centre, cell)


def check_not_too_many(piece):
    if len(piece) > MOST_TURNED:
        raise TooMany("the piece has more than six cells")


class Turning(Laying):
    def __init__(self, piece, grid, centre):
        check_not_too_many(piece)
        self.centre = centre
        Laying.__init__(self, piece, grid)

    def laid(self):
        return [(False, own) for own in self.piece] + [(True, own) for own in self.piece]

    def spot(self, half, own):
        if half:
            return half_turned(own, self.centre)
        return own


def rests_of(grid):
    rests = []
    for y in range(grid[2]):
        rests.extend([(x, y) for x in range(grid[0])])
    return rests


def turnings_of(piece):
    check_not_too_many(piece)
    turnings = []
    for grid in grids_of(2 * len(piece)):
        for centre in rests_of(grid):
            if Turning(piece, grid, centre).is_floor():
                turnings.append((grid, centre))
    return turnings
