"""Pairs of deeds that share a box, and ringings that make them meet."""

from bellnest.errors import NoNest
from bellnest.frames import word_at
from bellnest.nests import ringings_to
from bellnest.spans import spans, touches_box, writes_box


def deed_at(program, row, place):
    """The deed at a place of a row."""
    return program[1][row][2][place][0]


def word_of(program, i, p, j, both):
    """The word of a pair of place p of row i and a deed of row j, where both write the box or not."""
    rows = program[1]
    if rows[j][1] <= rows[i][1]:
        return "rank"
    if word_at(program, i, p) >> j & 1:
        return "shut"
    return "over" if both else "half"


def users_of(program, x):
    """Tuples (row, place, writes) of all deeds that touch box x: whether they write it."""
    boxes = program[0]
    users = []
    for number, row in enumerate(program[1]):
        for place, told in enumerate(row[2]):
            if touches_box(boxes, told[0], x):
                users.append((number, place, writes_box(boxes, told[0], x)))
    return users


def begun_at(boxes, deed, x):
    """The first turn of the deed's span of box x, or None where it spans it not."""
    turns = [span[1] for span in spans(boxes, deed) if span[0] == x]
    return turns[0] if turns != [] else None


def pairs_of_box(program, x):
    """All pairs with box x."""
    users = users_of(program, x)
    found = []
    for i, p, first in users:
        if begun_at(program[0], deed_at(program, i, p), x) is None:
            continue
        for j, q, second in users:
            if j != i and (first or second):
                found.append((x, i, p, j, q, word_of(program, i, p, j, first and second)))
    return found


def pairs(program):
    """All pairs, rising."""
    found = []
    for x in range(len(program[0])):
        found.extend(pairs_of_box(program, x))
    return sorted(found)


def meeting(program, pair):
    """Ringings whose run does a turn of the pair's second deed amid its first one, or NoNest."""
    x = pair[0]
    i = pair[1]
    p = pair[2]
    j = pair[3]
    if pair[5] not in ("over", "half"):
        raise NoNest(j)
    begun = begun_at(program[0], deed_at(program, i, p), x)
    # main's end is shut to none, so that every bell may enter there
    below = [(0, len(program[1][0][2]), 0)] if i > 0 else []
    # behind these words the run goes on with all of the second deed
    return ringings_to(program, below + [(i, p, begun + 1), (j, pair[4], 0)])
