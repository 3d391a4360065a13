"""The refusals of the program, all under FloorError.

Their words hold no cell, place or way: Python does not write out a number of very many figures,
and a refusal must not fail for that. The fields hold them.
"""


class FloorError(ValueError):
    pass


class NoPiece(FloorError):
    pass


class TooMany(FloorError):
    pass


class NoDrawing(FloorError):
    pass


class Backward(FloorError):
    pass


class NoGrid(FloorError):
    pass


class NotAsMany(FloorError):
    pass


class NoFloor(FloorError):
    pass


class NoLine(FloorError):
    pass


class Nothing(FloorError):
    pass


class Apart(FloorError):
    def __init__(self, cell):
        FloorError.__init__(self, "a cell does not hang together with the first one")
        self.cell = cell


class Hole(FloorError):
    def __init__(self, cell):
        FloorError.__init__(self, "a cell is shut in")
        self.cell = cell


class NoWord(FloorError):
    def __init__(self, place):
        FloorError.__init__(self, "not a word of the four letters")
        self.place = place


class Crossed(FloorError):
    def __init__(self, place):
        FloorError.__init__(self, "the word comes to a corner where it was before")
        self.place = place


class Open(FloorError):
    def __init__(self, way):
        FloorError.__init__(self, "the word does not lead back to where it began")
        self.way = way
