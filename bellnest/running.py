"""Runs over rows of ringings, and what their events tell."""

from bellnest.errors import NoBell
from bellnest.machine import Machine
from bellnest.waits import is_word


def run(program, ringings):
    """The events of the run of these ringings and the cells at its end, or NoBell."""
    for word in ringings:
        if not is_word(len(program[1]) - 1, word):
            raise NoBell(word)
    machine = Machine(program)
    events = [machine.turn(word) for word in ringings]
    while not machine.idle():
        events.append(machine.turn())
    return (events, machine.cells())


def prompt(events):
    """The ringings at which each bell rings just when it enters."""
    return [1 << event[1] if event[0] == "enter" else 0 for event in events]


def served(events):
    """Of each bell that entered, how often."""
    counts = {}
    for event in events:
        if event[0] == "enter":
            counts[event[1]] = counts.get(event[1], 0) + 1
    return counts
