"""Frames and piles: where they stand, which bell may enter, what the top's next turn does and breaks."""

from bellnest.cells import cells_of
from bellnest.deeds import deed_of
from bellnest.promises import promise_of


def places_of(program, row):
    """The places of a row."""
    return program[1][row][2]


def deed_at(program, row, place):
    """The deed at a place of a row."""
    return places_of(program, row)[place][0]


def is_at_end(program, frame):
    """Whether the frame is main's, at its end. No bell's is, since it is taken off behind its last deed."""
    return frame[1] == len(places_of(program, frame[0]))


def word_at(program, row, place):
    """The word at a place of a row; 0 at main's end."""
    places = places_of(program, row)
    return places[place][1] if place < len(places) else 0


def shut_by(program, pile):
    """All bits in words at which the pile's frames stand."""
    word = 0
    for frame in pile:
        word = word | word_at(program, frame[0], frame[1])
    return word


def may_enter(program, pile, bell):
    """Whether the bell may enter on this pile."""
    rows = program[1]
    return rows[bell][1] > rows[pile[-1][0]][1] and shut_by(program, pile) >> bell & 1 == 0


def entered(pile, bell):
    """The pile with the bell at its begin on it."""
    return pile + ((bell, 0, 0, ()),)


def turned(program, pile, cells):
    """Pile and cells behind the top's next turn; None where the top is main at its end."""
    top = pile[-1]
    if is_at_end(program, top):
        return None
    deed = deed_of(program[0], deed_at(program, top[0], top[1]))
    left = deed.after(top[2], cells, top[3])
    if left[2] < deed.turns():
        frame = (top[0], top[1], left[2], left[1])
    else:
        frame = (top[0], top[1] + 1, 0, ())
    if frame[0] > 0 and is_at_end(program, frame):
        return (pile[:-1], left[0])
    return (pile[:-1] + (frame,), left[0])


def none_watched(program, frame):
    """The place of the none whose promise a turn above this frame may break, or None."""
    # a none has turn 0 alone, so a frame at a later turn can only stand in the deed right ahead of one
    place = frame[1] if frame[2] == 0 else frame[1] + 1
    if place == len(places_of(program, frame[0])) or deed_at(program, frame[0], place)[0] != "none":
        return None
    return place


def touches(program, frame, x):
    """Whether the frame's next turn reads or writes a cell of box x."""
    deed = deed_of(program[0], deed_at(program, frame[0], frame[1]))
    touched = deed.reads(frame[2]) + deed.writes(frame[2])
    return any([cell in touched for cell in cells_of(program[0], x)])


def broken_by(program, pile, cells):
    """The pairs (row, place) of the promises that the top's next turn breaks, from main up."""
    top = pile[-1]
    if is_at_end(program, top):
        return ()
    broken = []
    for frame in pile[:-1]:
        place = none_watched(program, frame)
        if place is not None and touches(program, top, deed_at(program, frame[0], place)[1]):
            broken.append((frame[0], place))
    if not promise_of(program[0], deed_at(program, top[0], top[1]))(cells):
        broken.append((top[0], top[1]))
    return tuple(broken)
