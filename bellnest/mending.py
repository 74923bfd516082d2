"""Mending: bars with which all promises are held."""

from bellnest.bars import barred, bars_of
from bellnest.judging import judged


def needed(holds, fixed, bars):
    """Of these bars, which all together hold with the fixed ones, some that do so, too, none of which can be spared."""
    if holds(fixed):
        return []
    if len(bars) == 1:
        return bars
    # bars more never break what is held, so that what one half needs beside all of the other one is needed for good
    half = len(bars) // 2
    upper = needed(holds, fixed + bars[:half], bars[half:])
    lower = needed(holds, fixed + upper, bars[:half])
    return lower + upper


def mended(program, many, most=300):
    """("shut", bars, table, rows of ringings) or ("never", ringings), or TooMany."""
    # bars more never make more states, so that only this first judging can be refused
    first = judged(program, many, most)
    if first[0] is None:
        return ("shut", [], first[1], [])
    every = bars_of(program)
    last = judged(barred(program, every), many, most)
    if last[0] is not None:
        return ("never", last[0])
    bars = needed(lambda some: judged(barred(program, some), many, most)[0] is None, [], every)
    ringings = []
    for bar in bars:
        others = [other for other in bars if other != bar]
        ringings.append(judged(barred(program, others), many, most)[0])
    return ("shut", bars, judged(barred(program, bars), many, most)[1], ringings)
