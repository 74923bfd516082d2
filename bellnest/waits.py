"""Words of bits, and which bell that waits is the best."""


def bits_of(word):
    """The numbers of the bits that are set, rising."""
    return [bit for bit in range(word.bit_length()) if word >> bit & 1]


def is_word(bells, number):
    """Whether the number is a word of this many bells."""
    # bit 0 is no bell's, so a word is even, and the last bell's bit has the number of bells
    return 0 <= number < (1 << (bells + 1)) and number & 1 == 0


def best(ranks, flags, floor, shut):
    """The best one of the bells in flags and not in shut, with a rank above floor; 0 where there is none."""
    found = 0
    for bell in bits_of(flags):
        if shut >> bell & 1 == 0 and ranks[bell] > max(floor, ranks[found]):
            found = bell
    return found
