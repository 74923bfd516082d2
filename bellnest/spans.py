"""Which boxes a deed touches, writes and spans."""

from bellnest.cells import cells_of
from bellnest.deeds import deed_of


def turns_at(boxes, deed, x, reading):
    """The turns at which the deed writes box x or, where reading counts, reads it."""
    made = deed_of(boxes, deed)
    cells = cells_of(boxes, x)
    turns = []
    for turn in range(made.turns()):
        there = made.writes(turn) + (made.reads(turn) if reading else [])
        if any([cell in cells for cell in there]):
            turns.append(turn)
    return turns


def touches_box(boxes, deed, x):
    """Whether the deed reads or writes box x at some turn."""
    return turns_at(boxes, deed, x, True) != []


def writes_box(boxes, deed, x):
    """Whether the deed writes box x at some turn."""
    return turns_at(boxes, deed, x, False) != []


def spans(boxes, deed):
    """Tuples (x, first, last), rising: the deed spans box x from turn first to turn last."""
    found = []
    for x in range(len(boxes)):
        turns = turns_at(boxes, deed, x, True)
        # what an anew reads is guarded by its tally, so that it spans alone what it writes
        if len(turns) > 1 and (deed[0] != "anew" or x == deed[1]):
            found.append((x, turns[0], turns[-1]))
    return found
