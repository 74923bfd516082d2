"""Judging: whether runs of at most so many ringings break a promise."""

from bellnest.states import behind, breaks, come, may_come
from bellnest.tables import table


def steps_from(program, state, price):
    """What comes from a state of this price: tuples (state, price, word of ringings)."""
    steps = [(come(program, state, bell), price + 1, 1 << bell) for bell in may_come(program, state)]
    after = behind(program, state)
    if after is not None:
        steps.append((after, price, 0))
    return steps


def sources_of(program, rows):
    """Of each state that comes from one of these rows at its own price: the first such row's state, and the word."""
    prices = dict(rows)
    sources = {}
    for state, price in rows:
        for step in steps_from(program, state, price):
            if prices.get(step[0]) == step[1] and step[0] not in sources:
                sources[step[0]] = (state, step[2])
    return sources


def words_to(program, rows, state):
    """The ringings that come to the state, which has one of these rows, each of which comes from one ahead of it."""
    sources = sources_of(program, rows)
    words = []
    while state != rows[0][0]:
        words.append(sources[state][1])
        state = sources[state][0]
    return list(reversed(words))


def cheapest_break(program, rows):
    """The number of a row of the lowest price whose next turn breaks a promise, or None."""
    found = None
    for number, row in enumerate(rows):
        if (found is None or row[1] < rows[found][1]) and breaks(program, row[0]) != ():
            found = number
    return found


def judged(program, many, most=300):
    """The fewest ringings that break a promise, or None, and the table; or TooMany."""
    rows = table(program, many, most)
    found = cheapest_break(program, rows)
    if found is None:
        return (None, rows)
    return (words_to(program, rows[:found + 1], rows[found][0]), rows)
