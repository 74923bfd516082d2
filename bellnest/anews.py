"""Readings anew: by which bells they are loose, and ringings that loosen them."""

from bellnest.frames import word_at
from bellnest.nests import ringings_to
from bellnest.spans import writes_box


def deed_at(program, row, place):
    """The deed at a place of a row."""
    return program[1][row][2][place][0]


def anews(program):
    """The tuples (row, place) of all anews, rising."""
    found = []
    for number, row in enumerate(program[1]):
        found.extend([(number, place) for place in range(len(row[2])) if row[2][place][0][0] == "anew"])
    return found


def coming(program, row, place):
    """The bells that may come while the row stands at the place."""
    rows = program[1]
    shut = word_at(program, row, place)
    return [bell for bell in range(1, len(rows)) if rows[bell][1] > rows[row][1] and shut >> bell & 1 == 0]


def loose_by(program, anew, bell):
    """The places in the bell's row by which the anew is loose."""
    boxes = program[0]
    deeds = [place[0] for place in program[1][bell][2]]
    y = anew[2]
    t = anew[3]
    ticked = ("tick", t) in deeds
    found = []
    for place, deed in enumerate(deeds):
        if deed[0] != "tick" and writes_box(boxes, deed, t) or not ticked and writes_box(boxes, deed, y):
            found.append(place)
    return found


def loose(program, row, place):
    """A tuple (k, q) by which the anew at the place of the row is loose, or None where it is sure."""
    for bell in coming(program, row, place):
        found = loose_by(program, deed_at(program, row, place), bell)
        if found != []:
            return (bell, found[0])
    return None


def loosening(program, row, place, found):
    """Ringings in whose run the deed found writes t or y while the anew reads."""
    # main's end is shut to none, so that every bell may enter there
    below = [(0, len(program[1][0][2]), 0)] if row > 0 else []
    # behind these words the run goes on with all of the deed found
    return ringings_to(program, below + [(row, place, 1), (found[0], found[1], 0)])
