"""The greatest depth of a pile in all runs."""

from bellnest.frames import word_at
from bellnest.nests import ringings_to


def places_to_stand(program, row):
    """The places at which a row may stand: its own, of main its end, too."""
    count = len(program[1][row][2])
    return list(range(count + 1 if row == 0 else count))


def steps_up(program, row, word):
    """Tuples (place, bell, shut): where the row stands above frames shut by word, who may enter then, shut by all."""
    rows = program[1]
    steps = []
    for place in places_to_stand(program, row):
        shut = word | word_at(program, row, place)
        for bell in range(1, len(rows)):
            if rows[bell][1] > rows[row][1] and shut >> bell & 1 == 0:
                steps.append((place, bell, shut))
    return steps


def measure(program, row, word, depths):
    """How many bells may lie above a frame of this row, above frames shut by word; each answer is kept in depths."""
    # the same row and word come on many ways, and ranks rise, so that this ends
    if (row, word) not in depths:
        above = [measure(program, step[1], step[2], depths) + 1 for step in steps_up(program, row, word)]
        depths[(row, word)] = max(above, default=0)
    return depths[(row, word)]


def highest_stands(program, depths):
    """Stands of a pile that is as deep as can be."""
    stands = []
    row = 0
    word = 0
    while depths[(row, word)] > 0:
        step = max(steps_up(program, row, word), key=lambda told: depths[(told[1], told[2])])
        stands.append((row, step[0], 0))
        row = step[1]
        word = step[2]
    return stands + [(row, 0, 0)]


def deepest(program):
    """The greatest depth, and ringings in whose run a pile is so deep."""
    depths = {}
    depth = measure(program, 0, 0, depths)
    return (depth, ringings_to(program, highest_stands(program, depths)))


def paper(program):
    """Tuples (row, word, depth) from which it can be seen that no pile is deeper."""
    depths = {}
    measure(program, 0, 0, depths)
    return [(row, word, depths[(row, word)]) for row, word in depths]
