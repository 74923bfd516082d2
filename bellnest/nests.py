"""Ringings that come to stands."""

from bellnest.cells import starts_of
from bellnest.errors import NoNest
from bellnest.frames import entered, may_enter, turned


def ringings_to(program, stands):
    """Words behind which the pile's frames stand so, or NoNest."""
    pile = ((0, 0, 0, ()),)
    cells = starts_of(program[0])
    words = []
    for number, stand in enumerate(stands):
        if number > 0:
            if not may_enter(program, pile, stand[0]):
                raise NoNest(stand[0])
            pile = entered(pile, stand[0])
            words.append(1 << stand[0])
        # no bell comes while this frame goes to its stand, so it never goes back
        while pile[-1][1:3] != stand[1:3]:
            left = turned(program, pile, cells)
            pile = left[0]
            cells = left[1]
            words.append(0)
    return words
