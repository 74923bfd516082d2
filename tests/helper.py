"""What the tests share: drawn programs, and a slow, plain model of the document to hold the program against.

Nothing here draws from the package, so that a fault there can't hide itself.
"""

import random

KINDS = ("put", "copy", "grow", "tick", "still", "is", "most", "none", "anew")


# ---- drawing ----

def boxes_drawn(rng, most=4):
    names = rng.sample(["a", "b", "cc", "put", "row", "main", "is", "plus", "z", "tt"], rng.randint(0, most))
    return tuple((name, tuple(rng.randint(-2, 2) for cell in range(rng.choice((1, 1, 2))))) for name in names)


def deeds_possible(rng, boxes):
    """One deed of each kind that these boxes bear."""
    every = range(len(boxes))
    size = [len(box[1]) for box in boxes]
    found = [("still", rng.randint(1, 3))]
    if boxes:
        x = rng.choice(every)
        found.append(("put", x, tuple(rng.randint(-2, 2) for cell in range(size[x]))))
        found.append(("grow", rng.choice(every), rng.randint(-2, 2)))
        found.append(("none", rng.choice(every)))
    alike = [(x, y) for x in every for y in every if size[x] == size[y]]
    if alike:
        for kind in ("is", "most"):
            found.append((kind,) + rng.choice(alike) + (rng.randint(-1, 2),))
    unlike = [(x, y) for x, y in alike if x != y]
    if unlike:
        found.append(("copy",) + rng.choice(unlike))
    single = [x for x in every if size[x] == 1]
    if single:
        found.append(("tick", rng.choice(single)))
    triples = [(x, y, t) for x, y in unlike for t in single if t not in (x, y)]
    if triples:
        found += [("anew",) + rng.choice(triples)] * 2
    return found


def row_drawn(rng, boxes, bells, places, shut):
    row = []
    for place in range(rng.randint(1, places)):
        word = sum(1 << bell for bell in range(1, bells + 1) if rng.random() < shut)
        row.append((rng.choice(deeds_possible(rng, boxes)), word))
    return tuple(row)


def program_drawn(seed, boxes=4, bells=3, places=4, shut=0.2, ranks=4):
    rng = random.Random(seed)
    drawn = boxes_drawn(rng, boxes)
    count = rng.randint(0, bells)
    names = rng.sample(["a", "b", "cc", "put", "row", "open", "is", "ab", "abc"], count)
    rows = [("main", 0, row_drawn(rng, drawn, count, places, shut))]
    rows += [(name, rng.randint(1, ranks), row_drawn(rng, drawn, count, places, shut)) for name in names]
    return (drawn, tuple(rows))


def programs_drawn(seeds, **bounds):
    return [program_drawn(seed, **bounds) for seed in seeds]


def ringings_drawn(rng, program, length, often=0.2):
    bells = range(1, len(program[1]))
    return [sum(1 << bell for bell in bells if rng.random() < often) for turn in range(length)]


def ringings_few(rng, program, length, count):
    """Ringings with at most so many bits in all words."""
    words = [0] * length
    for ring in range(count if len(program[1]) > 1 else 0):
        words[rng.randrange(length)] |= 1 << rng.randrange(1, len(program[1]))
    return words


def bits(words):
    return sum(bin(word).count("1") for word in words)


# ---- the text ----

def deed_line(names, deed):
    """A deed's line, as promise 10 tells it."""
    kind = deed[0]
    if kind == "still":
        return f"still {deed[1]}"
    x = names[deed[1]]
    if kind == "put":
        return f"put {x} " + " ".join(str(number) for number in deed[2])
    if kind == "grow":
        return f"grow {x} {deed[2]}"
    if kind in ("tick", "none"):
        return f"{kind} {x}"
    y = names[deed[2]]
    if kind == "copy":
        return f"copy {x} {y}"
    if kind == "anew":
        return f"anew {x} from {y} by {names[deed[3]]}"
    return f"here {x} {kind} {y} plus {deed[3]}"


def lines_wanted(program):
    """The lines of a program, as promise 12 tells them."""
    boxes, rows = program
    lines = [f"box {name} " + " ".join(str(start) for start in starts) for name, starts in boxes]
    lines += [f"bell {name} {rank}" for name, rank, places in rows[1:]]
    for name, rank, places in rows:
        lines.append(f"row {name}")
        for deed, word in places:
            shut = [rows[bell][0] for bell in range(1, len(rows)) if word & (1 << bell)]
            line = deed_line([box[0] for box in boxes], deed)
            lines += ["shut " + " ".join(shut), line, "open"] if shut else [line]
    return lines


# ---- the model ----

def cells_in(boxes, x):
    first = sum(len(box[1]) for box in boxes[:x])
    return list(range(first, first + len(boxes[x][1])))


def plan(boxes, deed):
    """Of each turn the cells read and the cells written."""
    kind = deed[0]
    if kind == "still":
        return [([], [])] * deed[1]
    if kind == "none":
        return [([], [])]
    xs = cells_in(boxes, deed[1])
    if kind == "put":
        return [([], [cell]) for cell in xs]
    if kind == "grow":
        return [([cell], []) for cell in xs] + [([], [cell]) for cell in xs]
    if kind == "tick":
        return [(xs, xs)]
    ys = cells_in(boxes, deed[2])
    if kind == "copy":
        return [([y], [x]) for x, y in zip(xs, ys)]
    if kind == "anew":
        t = cells_in(boxes, deed[3])
        return [(t, [])] + [([y], []) for y in ys] + [(t, [])] + [([], [x]) for x in xs]
    return [(sorted(set(xs + ys)), [])]


def step(boxes, deed, turn, cells, hand):
    """Cells, hand and the next turn behind a turn, as promise 6 tells them."""
    cells = list(cells)
    hand = list(hand)
    kind = deed[0]
    following = turn + 1
    xs = cells_in(boxes, deed[1]) if kind not in ("still", "none") else []
    size = len(xs)
    if kind == "put":
        cells[xs[turn]] = deed[2][turn]
    elif kind == "copy":
        cells[xs[turn]] = cells[cells_in(boxes, deed[2])[turn]]
    elif kind == "tick":
        cells[xs[0]] += 1
    elif kind == "grow" and turn < size:
        hand.append(cells[xs[turn]])
    elif kind == "grow":
        cells[xs[turn - size]] = hand[turn - size] + deed[2]
    elif kind == "anew":
        ys, t = cells_in(boxes, deed[2]), cells_in(boxes, deed[3])[0]
        if turn == 0:
            hand.append(cells[t])
        elif turn <= size:
            hand.append(cells[ys[turn - 1]])
        elif turn == size + 1:
            if cells[t] != hand[0]:
                following, hand = 0, []
        else:
            cells[xs[turn - size - 2]] = hand[turn - size - 1]
    if following == len(plan(boxes, deed)):
        hand = []
    return tuple(cells), tuple(hand), following


def deed_in(program, row, place):
    return program[1][row][2][place][0]


def word_in(program, row, place):
    places = program[1][row][2]
    return places[place][1] if place < len(places) else 0


def may_come_in(program, pile, bell):
    if program[1][bell][1] <= program[1][pile[-1][0]][1]:
        return False
    return not any(word_in(program, row, place) & (1 << bell) for row, place, turn, hand in pile)


def main_ended(program, pile):
    return len(pile) == 1 and pile[0][1] == len(program[1][0][2])


def turn_of(program, pile, cells):
    """Pile and cells behind the top's next turn, None at main's end."""
    if main_ended(program, pile):
        return None
    row, place, turn, hand = pile[-1]
    deed = deed_in(program, row, place)
    cells, hand, turn = step(program[0], deed, turn, cells, hand)
    if turn == len(plan(program[0], deed)):
        place, turn = place + 1, 0
        if row and place == len(program[1][row][2]):
            return pile[:-1], cells
    return pile[:-1] + ((row, place, turn, hand),), cells


def holds(boxes, deed, cells):
    couples = zip(cells_in(boxes, deed[1]), cells_in(boxes, deed[2]))
    if deed[0] == "is":
        return all(cells[x] == cells[y] + deed[3] for x, y in couples)
    return all(cells[x] <= cells[y] + deed[3] for x, y in couples)


def broken_in(program, pile, cells):
    """The pairs that the top's next turn breaks, as promise 16 tells them."""
    if main_ended(program, pile):
        return ()
    boxes, rows = program
    row, place, turn, hand = pile[-1]
    deed = deed_in(program, row, place)
    reads, writes = plan(boxes, deed)[turn]
    touched = set(reads) | set(writes)
    broken = []
    for below, stand, at, kept in pile[:-1]:
        for other, (promise, word) in enumerate(rows[below][2]):
            if promise[0] == "none" and touched & set(cells_in(boxes, promise[1])):
                if stand == other or stand == other - 1 and at >= 1:
                    broken.append((below, other))
    if deed[0] in ("is", "most") and not holds(boxes, deed, cells):
        broken.append((row, place))
    return tuple(broken)


def begin_of(program):
    return ((0, 0, 0, ()),), tuple(start for box in program[0] for start in box[1])


class Model:
    """The machine as promise 15 tells it."""

    def __init__(self, program):
        self.program = program
        self.flags = 0
        self.pile, self.cells = begin_of(program)

    def turn(self, word=0):
        self.flags |= word
        rows = self.program[1]
        ready = [bell for bell in range(1, len(rows)) if self.flags >> bell & 1]
        ready = [bell for bell in ready if may_come_in(self.program, self.pile, bell)]
        if ready:
            bell = min(ready, key=lambda one: (-rows[one][1], one))
            self.flags -= 1 << bell
            self.pile += ((bell, 0, 0, ()),)
            return ("enter", bell)
        if main_ended(self.program, self.pile):
            return ("idle",)
        row, place, turn, hand = self.pile[-1]
        broken = broken_in(self.program, self.pile, self.cells)
        self.pile, self.cells = turn_of(self.program, self.pile, self.cells)
        return ("turn", row, place, turn, broken)

    def idle(self):
        return self.flags == 0 and main_ended(self.program, self.pile)


def walked(program, ringings):
    """Of each turn of a run: the pile and the cells ahead of it, and its event; then the model at the end."""
    model = Model(program)
    turns = []
    number = 0
    while number < len(ringings) or not model.idle():
        pile, cells = model.pile, model.cells
        turns.append((pile, cells, model.turn(ringings[number] if number < len(ringings) else 0)))
        number += 1
    return turns, model


def events_of(program, ringings):
    return [event for pile, cells, event in walked(program, ringings)[0]]


def depth_of(program, ringings):
    """The greatest depth of a pile in this run."""
    turns, model = walked(program, ringings)
    return max(len(pile) - 1 for pile in [pile for pile, cells, event in turns] + [model.pile])


def breaks_one(program, ringings):
    return any(event[0] == "turn" and event[4] for event in events_of(program, ringings))


def prices_of(program, many):
    """Of each state that comes with at most so many enterings the fewest, by search, price after price."""
    prices = {}
    level = {begin_of(program)}
    for price in range(many + 1):
        following = set()
        todo = list(level)
        while todo:
            state = todo.pop()
            if state in prices:
                continue
            prices[state] = price
            left = turn_of(program, *state)
            if left is not None:
                todo.append(left)
            for bell in range(1, len(program[1])):
                if may_come_in(program, state[0], bell):
                    following.add((state[0] + ((bell, 0, 0, ()),), state[1]))
        level = following
    return prices


def fewest_to_break(program, many):
    """The fewest enterings with which a promise can be broken, None where at most so many break none."""
    found = [price for state, price in prices_of(program, many).items() if broken_in(program, *state)]
    return min(found, default=None)


def turns_in(program, row, place):
    """The turns at which a frame may stand at a place: just 0 at main's end."""
    places = program[1][row][2]
    return range(len(plan(program[0], places[place][0]))) if place < len(places) else range(1)


def stands_in(program, row):
    """All stands of a row."""
    count = len(program[1][row][2]) + (1 if row == 0 else 0)
    return [(row, place, turn) for place in range(count) for turn in turns_in(program, row, place)]


def bells_above(program, stands):
    """The bells that may enter where these stand."""
    pile = tuple(stand + ((),) for stand in stands)
    return [bell for bell in range(1, len(program[1])) if may_come_in(program, pile, bell)]


def gone_to(program, words):
    """The machine behind just as many turns as there are words, and whether an anew has gone back on the way."""
    model = Model(program)
    back = False
    for word in words:
        event = model.turn(word)
        if event[0] == "turn" and event[3] > 0 and model.pile[-1][:3] == (event[1], event[2], 0):
            back = True
    return model, back


def bars_in(program):
    """All bars, as promise 31 tells them."""
    rows = program[1]
    found = []
    for row, (name, rank, places) in enumerate(rows):
        for place, (deed, word) in enumerate(places):
            for bell in range(1, len(rows)):
                if rows[bell][1] > rank and not word & (1 << bell):
                    found.append((row, place, bell))
    return found


def with_bars(program, bars):
    """The program in which these places are shut to these bells, too."""
    rows = []
    for row, (name, rank, places) in enumerate(program[1]):
        shut = [sum(1 << bar[2] for bar in bars if bar[:2] == (row, place)) for place in range(len(places))]
        rows.append((name, rank, tuple((deed, word | more) for (deed, word), more in zip(places, shut))))
    return (program[0], tuple(rows))
