"""The machine, turn by turn."""

from bellnest.cells import starts_of
from bellnest.errors import NoBell
from bellnest.frames import broken_by, entered, shut_by, turned
from bellnest.waits import best, is_word


class Machine:
    """A machine that does a program, from its begin on."""

    def __init__(self, program):
        self.program = program
        self.ranks = tuple([row[1] for row in program[1]])
        self.rung = 0
        self.frames = ((0, 0, 0, ()),)
        self.contents = starts_of(program[0])

    def turn(self, word=0):
        """Does one turn, at which the bells of this word ring: its event, or NoBell."""
        if not is_word(len(self.ranks) - 1, word):
            raise NoBell(word)
        self.rung = self.rung | word
        floor = self.ranks[self.frames[-1][0]]
        bell = best(self.ranks, self.rung, floor, shut_by(self.program, self.frames))
        if bell > 0:
            return self.let_in(bell)
        return self.go_on()

    def let_in(self, bell):
        """The turn at which this bell, whose flag is set, enters."""
        self.rung = self.rung ^ (1 << bell)
        self.frames = entered(self.frames, bell)
        return ("enter", bell)

    def go_on(self):
        """The turn of the top."""
        left = turned(self.program, self.frames, self.contents)
        if left is None:
            return ("idle",)
        top = self.frames[-1]
        broken = broken_by(self.program, self.frames, self.contents)
        self.frames = left[0]
        self.contents = left[1]
        return ("turn", top[0], top[1], top[2], broken)

    def flags(self):
        """The word of the flags that are set."""
        return self.rung

    def pile(self):
        """The frames, main's first."""
        return self.frames

    def cells(self):
        """The numbers in all cells."""
        return self.contents

    def idle(self):
        """Whether nothing is left to do: main alone at its end, no flag set."""
        places = self.program[1][0][2]
        return self.rung == 0 and self.frames == ((0, len(places), 0, ()),)
