"""States, and what comes from them whatever bells ring."""

from bellnest.cells import starts_of
from bellnest.frames import broken_by, entered, may_enter, turned


def begin(program):
    """The state at the begin."""
    return (((0, 0, 0, ()),), starts_of(program[0]))


def may_come(program, state):
    """The bells that may enter, rising."""
    return [bell for bell in range(1, len(program[1])) if may_enter(program, state[0], bell)]


def come(program, state, bell):
    """The state behind the entering of this bell."""
    return (entered(state[0], bell), state[1])


def behind(program, state):
    """The state behind the top's next turn, or None at main's end."""
    return turned(program, state[0], state[1])


def breaks(program, state):
    """The pairs of the promises that the top's next turn breaks."""
    return broken_by(program, state[0], state[1])
