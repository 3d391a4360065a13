"""All grids of a number of rests."""


def grids_of(count):
    grids = []
    for a in range(1, count + 1):
        if count % a == 0:
            grids.extend([(a, b, count // a) for b in range(a)])
    return grids
