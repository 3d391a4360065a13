"""The desk: it keeps a piece and a laying of it, is told lines, and answers each with a text."""

from borderfloor.borders import border_of, inside_of
from borderfloor.drawings import drawing_of, read_drawing
from borderfloor.errors import NoGrid, NoLine, Nothing
from borderfloor.layings import Laying, floors_of
from borderfloor.partings import partings_of
from borderfloor.pieces import settled
from borderfloor.turnings import Turning
from borderfloor.turns import turned_piece
from borderfloor.windows import window_of

WORDS_IN = {
    "piece": 2, "word": 2, "turn": 2, "floors": 1, "partings": 1, "lay": 4, "half": 6, "who": 3, "window": 5
}
FIGURES = "0123456789"
MOST_FIGURES = 30
TURNS = ("0", "1", "2", "3", "4", "5", "6", "7")
WIDEST = 40


def words_of(line):
    words = line.split(" ")
    if WORDS_IN.get(words[0]) != len(words):
        raise NoLine("another first word, or more or fewer words behind it")
    return words


def is_number(text):
    if text == "0":
        return True
    figures = text[1:] if text.startswith("-") else text
    if figures == "" or figures.startswith("0") or len(figures) > MOST_FIGURES:
        return False
    return all([figure in FIGURES for figure in figures])


def numbers_of_words(words):
    for word in words:
        if not is_number(word):
            raise NoLine("a number is none")
    return [int(word) for word in words]


def grid_of_numbers(a, b, d):
    if a < 1 or d < 1 or b < 0 or b >= a:
        raise NoGrid("the three numbers are no grid")
    return (a, b, d)


def listed(tuples):
    if len(tuples) == 0:
        return "none"
    return " ".join([",".join([str(number) for number in each]) for each in tuples])


class Desk:
    def __init__(self):
        self.piece = None
        self.laying = None

    def say(self, line):
        words = words_of(line)
        if words[0] == "piece":
            return self.say_piece(words[1])
        if words[0] == "word":
            return self.say_word(words[1])
        if words[0] == "turn":
            return self.say_turn(words[1])
        if words[0] == "floors":
            return listed(floors_of(self.piece_kept()))
        if words[0] == "partings":
            return listed(partings_of(border_of(self.piece_kept())[1]))
        numbers = numbers_of_words(words[1:])
        if words[0] == "lay":
            return self.say_lay(numbers)
        if words[0] == "half":
            return self.say_half(numbers)
        if words[0] == "who":
            return self.say_who(numbers)
        return self.say_window(numbers)

    def piece_kept(self):
        if self.piece is None:
            raise Nothing("no piece is kept")
        return self.piece

    def laying_kept(self):
        if self.laying is None:
            raise Nothing("no laying is kept")
        return self.laying

    def keep_piece(self, piece):
        self.piece = piece
        # A laying of another piece is none of this one.
        self.laying = None

    def keep_laying(self, laying):
        self.laying = laying
        return "floor" if laying.is_floor() else "meet"

    def say_piece(self, drawing):
        self.keep_piece(read_drawing(drawing))
        return border_of(self.piece)[1]

    def say_word(self, word):
        self.keep_piece(settled(inside_of((0, 0), word)))
        return drawing_of(self.piece)

    def say_turn(self, figure):
        if figure not in TURNS:
            raise NoLine("a turn is none")
        self.keep_piece(settled(turned_piece(self.piece_kept(), int(figure))))
        return drawing_of(self.piece)

    def say_lay(self, numbers):
        piece = self.piece_kept()
        grid = grid_of_numbers(numbers[0], numbers[1], numbers[2])
        return self.keep_laying(Laying(piece, grid))

    def say_half(self, numbers):
        piece = self.piece_kept()
        grid = grid_of_numbers(numbers[0], numbers[1], numbers[2])
        return self.keep_laying(Turning(piece, grid, (numbers[3], numbers[4])))

    def say_who(self, numbers):
        place = self.laying_kept().place_of((numbers[0], numbers[1]))
        words = [str(number) for number in place[1]]
        if place[0]:
            words.append("turned")
        words.append("by")
        words.extend([str(number) for number in place[2]])
        return " ".join(words)

    def say_window(self, numbers):
        for number in numbers[2:]:
            if number < 0 or number > WIDEST:
                raise NoLine("columns or rows are not from 0 to 40")
        rows = window_of(self.laying_kept(), (numbers[0], numbers[1]), numbers[2], numbers[3])
        return "/".join(rows)
