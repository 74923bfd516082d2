"""Names and written numbers. Signs are asked one by one, since other letters and figures than these are none."""

LETTERS = "abcdefghijklmnopqrstuvwxyz"
FIGURES = "0123456789"
LONGEST = 8
LOWEST = -1000000000
HIGHEST = 1000000000


def all_among(text, signs):
    """Whether each sign of the text is one of these."""
    return all([sign in signs for sign in text])


def is_name(text):
    """Whether the text is a name."""
    return 1 <= len(text) <= LONGEST and all_among(text, LETTERS)


def is_written(text):
    """Whether the text is a number in the one form in which it is written, whatever its size."""
    if text == "0":
        return True
    figures = text[1:] if text.startswith("-") else text
    return figures != "" and figures[0] != "0" and all_among(figures, FIGURES)


def number_of(text):
    """The number that is written, or None."""
    if not is_written(text):
        return None
    number = int(text)
    return number if LOWEST <= number <= HIGHEST else None
