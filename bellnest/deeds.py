"""Deeds of the nine kinds: their turns, and what each turn reads, writes and leaves behind."""

from bellnest.cells import cells_of


def written(cells, cell, number):
    """The cells with this number in this cell."""
    return cells[:cell] + (number,) + cells[cell + 1:]


class Deed:
    """A deed by its plan: of each turn a pair of tuples, the cells that it reads and those that it writes."""

    def __init__(self, plan):
        self.plan = plan

    def turns(self):
        """How many turns there are."""
        return len(self.plan)

    def reads(self, turn):
        """The cells that this turn reads, rising."""
        return list(self.plan[turn][0])

    def writes(self, turn):
        """The cells that this turn writes, rising."""
        return list(self.plan[turn][1])

    def after(self, turn, cells, hand):
        """Cells and hand behind this turn, and the turn that comes next."""
        return (cells, hand, turn + 1)


class Promise(Deed):
    """A deed of one turn that writes nothing, but promises something."""

    def __init__(self, watched):
        Deed.__init__(self, [(tuple(watched), ())])


class Comparing(Promise):
    """is and most: their turns are alike, only what they promise is not."""

    def __init__(self, left, right):
        # x and y may be one box, or y may lie ahead of x
        Promise.__init__(self, sorted(set(left + right)))


class Untouched(Promise):
    """none: it reads nothing itself, since it speaks of what others touch."""

    def __init__(self):
        Promise.__init__(self, [])


class Still(Deed):
    """still: turns that only pass."""

    def __init__(self, number):
        Deed.__init__(self, [((), ())] * number)


class Put(Deed):
    """put: one number a turn."""

    def __init__(self, targets, numbers):
        Deed.__init__(self, [((), (cell,)) for cell in targets])
        self.numbers = tuple(numbers)

    def after(self, turn, cells, hand):
        return (written(cells, self.writes(turn)[0], self.numbers[turn]), hand, turn + 1)


class Copy(Deed):
    """copy: one cell a turn, without a hand between."""

    def __init__(self, targets, sources):
        Deed.__init__(self, [((sources[k],), (targets[k],)) for k in range(len(targets))])

    def after(self, turn, cells, hand):
        number = cells[self.reads(turn)[0]]
        return (written(cells, self.writes(turn)[0], number), hand, turn + 1)


class Tick(Deed):
    """tick: read and written in one turn, so that no bell comes between."""

    def __init__(self, target):
        Deed.__init__(self, [((target,), (target,))])

    def after(self, turn, cells, hand):
        cell = self.writes(turn)[0]
        return (written(cells, cell, cells[cell] + 1), hand, turn + 1)


class Handed(Deed):
    """A deed that reads into its hand first, a cell a turn, and writes from it then."""

    def __init__(self, sources, targets):
        Deed.__init__(self, [((cell,), ()) for cell in sources] + [((), (cell,)) for cell in targets])

    def laid(self, turn, cells, hand):
        """Behind a turn that lays the cell that it reads at the hand's end."""
        return (cells, hand + (cells[self.reads(turn)[0]],), turn + 1)

    def set_down(self, turn, cells, hand, number):
        """Behind a turn that writes this number; the last such turn empties the hand."""
        behind = turn + 1
        kept = () if behind == self.turns() else hand
        return (written(cells, self.writes(turn)[0], number), kept, behind)


class Grow(Handed):
    """grow: all cells are read ahead of the first writing."""

    def __init__(self, targets, number):
        Handed.__init__(self, targets, targets)
        self.size = len(targets)
        self.number = number

    def after(self, turn, cells, hand):
        if turn < self.size:
            return self.laid(turn, cells, hand)
        return self.set_down(turn, cells, hand, hand[turn - self.size] + self.number)


class Anew(Handed):
    """anew: goes back where the tally has changed between its two readings."""

    def __init__(self, targets, sources, tally):
        Handed.__init__(self, [tally] + sources + [tally], targets)
        self.check = len(sources) + 1

    def after(self, turn, cells, hand):
        if turn < self.check:
            return self.laid(turn, cells, hand)
        if turn > self.check:
            # the hand's first number is the tally, so the first writing takes the second one
            return self.set_down(turn, cells, hand, hand[turn - self.check])
        if cells[self.reads(turn)[0]] == hand[0]:
            return (cells, hand, turn + 1)
        return (cells, (), 0)


def deed_of(boxes, deed):
    """The object of a class under Deed that does this deed on these boxes."""
    kind = deed[0]
    if kind == "still":
        return Still(deed[1])
    if kind == "none":
        return Untouched()
    first = cells_of(boxes, deed[1])
    if kind == "put":
        return Put(first, deed[2])
    if kind == "grow":
        return Grow(first, deed[2])
    if kind == "tick":
        return Tick(first[0])
    second = cells_of(boxes, deed[2])
    if kind == "copy":
        return Copy(first, second)
    if kind == "anew":
        return Anew(first, second, cells_of(boxes, deed[3])[0])
    return Comparing(first, second)
