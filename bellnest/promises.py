"""What an is and a most promise of the cells."""

from bellnest.cells import cells_of


def promise_of(boxes, deed):
    """A function of cells: whether they are as an is or most promises; True for every other deed."""
    if deed[0] not in ("is", "most"):
        return lambda cells: True
    couples = list(zip(cells_of(boxes, deed[1]), cells_of(boxes, deed[2])))
    number = deed[3]
    if deed[0] == "is":
        return lambda cells: all([cells[a] == cells[b] + number for a, b in couples])
    return lambda cells: all([cells[a] <= cells[b] + number for a, b in couples])
