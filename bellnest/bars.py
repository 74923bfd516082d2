"""Bars: places that can be shut to bells, too."""


def bars_of(program):
    """All bars of the program, sorted."""
    rows = program[1]
    found = []
    for number, row in enumerate(rows):
        above = [bell for bell in range(1, len(rows)) if rows[bell][1] > row[1]]
        for place, told in enumerate(row[2]):
            found.extend([(number, place, bell) for bell in above if told[1] >> bell & 1 == 0])
    return found


def barred(program, bars):
    """The program with these bars."""
    words = {}
    for bar in bars:
        words[bar[:2]] = words.get(bar[:2], 0) | (1 << bar[2])
    rows = []
    for number, row in enumerate(program[1]):
        places = [(told[0], told[1] | words.get((number, place), 0)) for place, told in enumerate(row[2])]
        rows.append((row[0], row[1], tuple(places)))
    return (program[0], tuple(rows))
