"""A desk that answers lines by lists of lines."""

from bellnest.anews import anews, loose
from bellnest.bars import barred, bars_of
from bellnest.depths import deepest
from bellnest.errors import NoLine
from bellnest.judging import judged
from bellnest.marks import number_of
from bellnest.mending import mended
from bellnest.pairs import pairs
from bellnest.reading import read
from bellnest.running import run
from bellnest.showing import shown
from bellnest.waits import bits_of

MOST = 300


def is_many(number):
    """Whether this is a number of ringings that may be asked for."""
    return number is not None and 0 <= number <= 9


def numbered(word, numbers):
    """A line of a word and numbers behind it."""
    return " ".join([word] + [str(number) for number in numbers])


def run_lines(program, ringings):
    """What is told of a run."""
    told = run(program, ringings)
    broken = sum([len(event[4]) for event in told[0] if event[0] == "turn"])
    return [numbered("turns", [len(told[0])]), numbered("cells", told[1]), numbered("broken", [broken])]


def pair_lines(program):
    """How many pairs have each word."""
    words = [pair[5] for pair in pairs(program)]
    return [numbered(word, [words.count(word)]) for word in ("rank", "shut", "half", "over")]


def anew_lines(program):
    """Of each anew whether it is sure."""
    lines = []
    for row, place in anews(program):
        word = "sure" if loose(program, row, place) is None else "loose"
        lines.append(" ".join([program[1][row][0], str(place), word]))
    return lines


def judge_lines(program, many):
    """Whether promises are held, or how few ringings break one."""
    ringings = judged(program, many, MOST)[0]
    if ringings is None:
        return ["held"]
    return [numbered("broken", [sum([len(bits_of(word)) for word in ringings])])]


def bar_line(program, bar):
    """The line of a bar."""
    rows = program[1]
    return " ".join(["bar", rows[bar[0]][0], str(bar[1]), rows[bar[2]][0]])


class Desk:
    """A desk over the program of a text."""

    def __init__(self, lines):
        self.program = read(lines)

    def say(self, line):
        """The answer to a line, or NoLine; NoBell and TooMany go on."""
        words = line.split(" ")
        numbers = [number_of(word) for word in words[1:]]
        if line in ("show", "depth", "pairs", "anews"):
            return self.tell(line)
        if words[0] == "run" and None not in numbers:
            return run_lines(self.program, numbers)
        if len(words) == 2 and words[0] in ("judge", "mend") and is_many(numbers[0]):
            return self.mend(numbers[0]) if words[0] == "mend" else judge_lines(self.program, numbers[0])
        # a bar's own line is the only one that names it, so that no other line is one of these
        meant = [bar for bar in bars_of(self.program) if bar_line(self.program, bar) == line]
        if meant == []:
            raise NoLine(line)
        self.program = barred(self.program, meant)
        return ["ok"]

    def tell(self, word):
        """The answer to a line of one word."""
        if word == "show":
            return shown(self.program)
        if word == "depth":
            return [numbered("depth", [deepest(self.program)[0]])]
        return pair_lines(self.program) if word == "pairs" else anew_lines(self.program)

    def mend(self, many):
        """Takes the bars that mend the program, and tells them."""
        told = mended(self.program, many, MOST)
        if told[0] == "never":
            return ["never"]
        lines = [bar_line(self.program, bar) for bar in told[1]]
        self.program = barred(self.program, told[1])
        return lines
