"""The table of all states that come with at most so many enterings."""

from bellnest.errors import TooMany
from bellnest.states import begin, behind, come, may_come


def add_walk(program, state, price, most, prices):
    """Adds the state and all that come from it by turns to prices, until one is there already."""
    while state is not None and state not in prices:
        if len(prices) == most:
            raise TooMany(most)
        prices[state] = price
        state = behind(program, state)


def table(program, many, most=300):
    """A list of tuples (state, price), or TooMany."""
    prices = {}
    add_walk(program, begin(program), 0, most, prices)
    count = 0
    # all states of one price are there ahead of the next price, so that each is found at its fewest enterings
    for price in range(1, many + 1):
        last = list(prices)[count:]
        count = len(prices)
        for state in last:
            for bell in may_come(program, state):
                add_walk(program, come(program, state, bell), price, most, prices)
    return list(prices.items())
