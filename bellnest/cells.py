"""Boxes and their cells. All cells are numbered from 0, box by box."""


def size_of(boxes, x):
    """How many cells box x has."""
    return len(boxes[x][1])


def cells_of(boxes, x):
    """The numbers of box x's cells, rising."""
    first = sum([size_of(boxes, k) for k in range(x)])
    return list(range(first, first + size_of(boxes, x)))


def box_of(boxes, cell):
    """The number of the box that has this cell."""
    owners = []
    for x in range(len(boxes)):
        owners.extend([x] * size_of(boxes, x))
    return owners[cell]


def starts_of(boxes):
    """The starts of all cells."""
    starts = []
    for box in boxes:
        starts.extend(box[1])
    return tuple(starts)
