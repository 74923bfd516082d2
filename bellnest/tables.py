"""The table of all states that come with at most so many enterings."""

from bellnest.errors import TooMany
from bellnest.states import begin, behind, come, may_come


def add_walk(program, state, price, most, prices):
    """Adds the state and all that come from it by turns to prices, until one is there already."""
    while state is not None and state not in prices:
        if len(prices) == most:
            raise TooMany(most)
        prices[state] = price
        state = behind(program, state)


def table(program, many, most=300):
    """A list of tuples (state, price), or TooMany."""
    prices = {}
    fresh = [begin(program)]
    # all states of one price are there ahead of the next price, so that each is found at its fewest enterings
    for price in range(many + 1):
        count = len(prices)
        for state in fresh:
            add_walk(program, state, price, most, prices)
        fresh = []
        if price < many:
            for state in list(prices)[count:]:
                fresh.extend([come(program, state, bell) for bell in may_come(program, state)])
    return list(prices.items())
