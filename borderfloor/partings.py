"""Words parted in stretches, each with a fellow half the word farther on, and the grids they make."""

from borderfloor.cells import taken
from borderfloor.grids import grid_of
from borderfloor.words import backwards, corners_of


# The last stretch ends where the first one's fellow begins, half the word behind the first cut.
def spans_of(word, cuts):
    ends = list(cuts[1:]) + [cuts[0] + len(word) // 2]
    return list(zip(cuts, ends))


def stretches_of(word, cuts):
    return [word[span[0]:span[1]] for span in spans_of(word, cuts)]


def is_parting(word, cuts):
    half = len(word) // 2
    twice = word + word
    for span in spans_of(word, cuts):
        stretch = twice[span[0]:span[1]]
        fellow = twice[span[0] + half:span[1] + half]
        if fellow != backwards(stretch):
            return False
    return True


def cuts_of_two(half):
    cuts = []
    for one in range(half):
        cuts.extend([(one, two) for two in range(one + 1, half)])
    return cuts


def cuts_of_three(half):
    cuts = []
    for pair in cuts_of_two(half):
        cuts.extend([(pair[0], pair[1], three) for three in range(pair[1] + 1, half)])
    return cuts


def partings_of(word):
    if len(word) % 2 == 1:
        return []
    half = len(word) // 2
    return [cuts for cuts in cuts_of_two(half) + cuts_of_three(half) if is_parting(word, cuts)]


def shifts_by(word, cuts):
    corners = corners_of((0, 0), word)
    half = len(word) // 2
    shifts = []
    for span in spans_of(word, cuts):
        fellow_end = (span[1] + half) % len(word)
        shifts.append(taken(corners[span[0]], corners[fellow_end]))
    return shifts


def grid_by(word, cuts):
    return grid_of(shifts_by(word, cuts))
