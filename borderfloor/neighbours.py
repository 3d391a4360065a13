"""What lies across the border of a piece in a floor, and how a floor parts the border."""

from borderfloor.borders import border_of
from borderfloor.cells import added
from borderfloor.layings import Laying
from borderfloor.words import corners_of

# A border has its piece at the left hand, so what lies across is at the right hand of each step:
# told from the corner where the step begins.
RIGHT_HAND = {"e": (0, -1), "n": (0, 0), "w": (-1, 0), "s": (-1, -1)}


def across(piece):
    border = border_of(piece)
    corners = corners_of(border[0], border[1])
    return [added(corner, RIGHT_HAND[letter]) for corner, letter in zip(corners, border[1])]


def neighbours_of(piece, grid):
    laying = Laying(piece, grid)
    return [laying.place_of(cell)[2] for cell in across(piece)]


def parted_by(piece, grid):
    shifts = neighbours_of(piece, grid)
    # The place ahead of the first one is the last one, as the border is a round.
    return tuple([place for place in range(len(shifts) // 2) if shifts[place] != shifts[place - 1]])
