"""A program is read from its text, line by line from above."""

from bellnest.cells import size_of
from bellnest.errors import NoText
from bellnest.marks import is_name, number_of

MOST_BOXES = 8
MOST_BELLS = 6
MOST_DEEDS = 12
MOST_STRETCHES = 12
RANKS = ("1", "2", "3", "4", "5", "6", "7", "8", "9")

# Great letters stand for what the line names: no word of a line has them.
FORMS = (
    ("put", "BOX", "NUMBER"),
    ("put", "BOX", "NUMBER", "NUMBER"),
    ("copy", "BOX", "BOX"),
    ("grow", "BOX", "NUMBER"),
    ("tick", "BOX"),
    ("still", "NUMBER"),
    ("here", "BOX", "is", "BOX", "plus", "NUMBER"),
    ("here", "BOX", "most", "BOX", "plus", "NUMBER"),
    ("none", "BOX"),
    ("anew", "BOX", "from", "BOX", "by", "BOX"),
)


def place_of(names, name):
    """Where the name stands among these, or None."""
    return names.index(name) if name in names else None


def values_of(form, words, names):
    """What the words name where the form asks for it: None for a name or number that is none."""
    values = []
    for part, word in zip(form, words):
        if part == "BOX":
            values.append(place_of(names, word))
        elif part == "NUMBER":
            values.append(number_of(word))
    return values


def has_form(form, words):
    """Whether the words are as many as the form's, and those that it gives are the same."""
    if len(form) != len(words):
        return False
    return all([part == word for part, word in zip(form, words) if part not in ("BOX", "NUMBER")])


def deed_from(form, words, values):
    """The deed's tuple, whether its boxes bear it or not."""
    if form[0] == "put":
        return ("put", values[0], tuple(values[1:]))
    kind = words[2] if form[0] == "here" else form[0]
    return (kind,) + tuple(values)


def fits(boxes, deed):
    """Whether the boxes bear the deed: sizes, and boxes that must be unlike."""
    kind = deed[0]
    if kind == "still":
        return 1 <= deed[1] <= 9
    size = size_of(boxes, deed[1])
    if kind == "put":
        return len(deed[2]) == size
    if kind == "tick":
        return size == 1
    if kind in ("grow", "none"):
        return True
    if size_of(boxes, deed[2]) != size:
        return False
    if kind == "copy":
        return deed[1] != deed[2]
    if kind == "anew":
        return len(set(deed[1:])) == 3 and size_of(boxes, deed[3]) == 1
    return True


def deed_read(boxes, words):
    """The deed that these words tell, or None."""
    names = [box[0] for box in boxes]
    for form in FORMS:
        if has_form(form, words):
            values = values_of(form, words, names)
            deed = deed_from(form, words, values)
            return deed if None not in values and fits(boxes, deed) else None
    return None


class Reader:
    """What the lines so far have told. Each taking tells whether the line can stand behind them."""

    def __init__(self):
        self.boxes = []
        self.bells = []
        self.rows = []
        # the words of the stretches that are begun and not ended
        self.stretches = []

    def take(self, line):
        """Takes a line, if it can stand here."""
        words = line.split(" ")
        if words[0] == "box":
            return self.take_box(words)
        if words[0] == "bell":
            return self.take_bell(words)
        if words[0] == "row":
            return self.take_row(words)
        if self.rows == []:
            return False
        if words[0] == "shut":
            return self.take_shut(words)
        if words[0] == "open":
            return self.take_end(words)
        return self.take_deed(words)

    def take_box(self, words):
        """A line of a box."""
        if self.bells != [] or self.rows != [] or len(self.boxes) == MOST_BOXES or len(words) not in (3, 4):
            return False
        starts = [number_of(word) for word in words[2:]]
        if not is_name(words[1]) or words[1] in [box[0] for box in self.boxes] or None in starts:
            return False
        self.boxes.append((words[1], tuple(starts)))
        return True

    def take_bell(self, words):
        """A line of a bell."""
        if self.rows != [] or len(self.bells) == MOST_BELLS or len(words) != 3:
            return False
        if not is_name(words[1]) or words[1] in self.row_names() or words[2] not in RANKS:
            return False
        self.bells.append((words[1], int(words[2])))
        return True

    def take_row(self, words):
        """A line that begins the next row."""
        names = self.row_names()
        begun = len(self.rows)
        if begun == len(names) or not self.may_end() or words != ["row", names[begun]]:
            return False
        self.rows.append([])
        return True

    def take_shut(self, words):
        """A line that begins a stretch."""
        numbers = [place_of(self.row_names(), word) for word in words[1:]]
        # main has the number 0, and no place is shut to it
        if numbers == [] or None in numbers or 0 in numbers or len(self.stretches) == MOST_STRETCHES:
            return False
        self.stretches.append(sum([1 << bell for bell in sorted(set(numbers))]))
        return True

    def take_end(self, words):
        """A line that ends the stretch that was begun last."""
        if len(words) != 1 or self.stretches == []:
            return False
        self.stretches.pop()
        return True

    def take_deed(self, words):
        """A line of a deed."""
        deed = deed_read(self.boxes, words)
        if deed is None or len(self.rows[-1]) == MOST_DEEDS:
            return False
        shut = 0
        for word in self.stretches:
            shut = shut | word
        self.rows[-1].append((deed, shut))
        return True

    def row_names(self):
        """The names of all rows, main's first."""
        return ["main"] + [bell[0] for bell in self.bells]

    def may_end(self):
        """Whether the row that was begun last, if any, may end here."""
        return self.rows == [] or self.rows[-1] != [] and self.stretches == []

    def is_whole(self):
        """Whether a program's text may end here."""
        return len(self.rows) == len(self.row_names()) and self.may_end()

    def made(self):
        """The program that was read."""
        ranks = [0] + [bell[1] for bell in self.bells]
        rows = [(name, rank, tuple(row)) for name, rank, row in zip(self.row_names(), ranks, self.rows)]
        return (tuple(self.boxes), tuple(rows))


def read(lines):
    """The program that these lines tell, or NoText."""
    reader = Reader()
    for place, line in enumerate(lines):
        if not reader.take(line):
            raise NoText(place)
    if not reader.is_whole():
        raise NoText(len(lines))
    return reader.made()
