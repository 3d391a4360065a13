"""Layings of a piece by the shifts of a grid, and the floors of a piece."""

from borderfloor.allgrids import grids_of
from borderfloor.cells import taken
from borderfloor.errors import NoFloor, NotAsMany
from borderfloor.grids import rest_of, rests_in


# The methods speak of things laid, pairs (half, own): so a class that lays turned cells, too, need
# only tell what it lays and where.
class Laying:
    def __init__(self, piece, grid):
        self.piece = piece
        self.grid = grid
        if rests_in(grid) != len(self.laid()):
            raise NotAsMany("the grid has not as many rests as cells are laid")

    def laid(self):
        return [(False, own) for own in self.piece]

    def spot(self, half, own):
        return own

    def rest_under(self, thing):
        return rest_of(self.grid, self.spot(thing[0], thing[1]))

    def meets(self):
        things = {}
        for thing in self.laid():
            rest = self.rest_under(thing)
            if rest in things:
                return (things[rest], thing)
            things[rest] = thing
        return None

    def is_floor(self):
        return self.meets() is None

    def place_of(self, cell):
        if not self.is_floor():
            raise NoFloor("two cells that are laid meet")
        # There are as many rests as things laid, so where none meet each rest has one.
        things = dict([(self.rest_under(thing), thing) for thing in self.laid()])
        thing = things[rest_of(self.grid, cell)]
        return (thing[0], thing[1], taken(cell, self.spot(thing[0], thing[1])))


def floors_of(piece):
    return [grid for grid in grids_of(len(piece)) if Laying(piece, grid).is_floor()]
