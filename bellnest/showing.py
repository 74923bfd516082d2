"""A program is shown as lines that are read to the same program."""


def box_line(box):
    """The line of a box."""
    return " ".join(["box", box[0]] + [str(start) for start in box[1]])


def deed_words(deed, names):
    """The words of a deed's line, with these names of boxes."""
    kind = deed[0]
    if kind == "still":
        return ["still", str(deed[1])]
    x = names[deed[1]]
    if kind == "put":
        return ["put", x] + [str(number) for number in deed[2]]
    if kind == "grow":
        return ["grow", x, str(deed[2])]
    if kind in ("tick", "none"):
        return [kind, x]
    y = names[deed[2]]
    if kind == "copy":
        return ["copy", x, y]
    if kind == "anew":
        return ["anew", x, "from", y, "by", names[deed[3]]]
    return ["here", x, kind, y, "plus", str(deed[3])]


def place_lines(place, boxes, bells):
    """The lines of a place: its deed's, in a stretch of its own where the place is shut."""
    line = " ".join(deed_words(place[0], [box[0] for box in boxes]))
    # bit 0 is no bell's, so the first bell's is bit 1
    shut = [name for number, name in enumerate(bells, start=1) if place[1] >> number & 1]
    if shut == []:
        return [line]
    return [" ".join(["shut"] + shut), line, "open"]


def shown(program):
    """The program's lines."""
    boxes = program[0]
    rows = program[1]
    lines = [box_line(box) for box in boxes]
    for row in rows[1:]:
        lines.append(" ".join(["bell", row[0], str(row[1])]))
    bells = [row[0] for row in rows[1:]]
    for row in rows:
        lines.append(" ".join(["row", row[0]]))
        for place in row[2]:
            lines.extend(place_lines(place, boxes, bells))
    return lines
