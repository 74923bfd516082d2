"""Promises 8, 14 and 20 where they speak of words of bits and of the best bell: bellnest.waits."""

import itertools
import unittest

from bellnest.waits import best, bits_of, is_word


class BitsTest(unittest.TestCase):

    def test_bits(self):
        for word, wanted in (
            (0, []), (1, [0]), (2, [1]), (3, [0, 1]), (4, [2]), (5, [0, 2]), (6, [1, 2]), (64, [6]), (126, [1, 2, 3, 4, 5, 6]),
            (127, [0, 1, 2, 3, 4, 5, 6]), (128, [7]), (255, list(range(8))), (1 << 59, [59]), (1 << 60, [60]),
            ((1 << 60) - 1, list(range(60))), ((1 << 60) + 1, [0, 60]), ((1 << 60) - 2, list(range(1, 60))),
            ((1 << 60) | (1 << 31) | 8, [3, 31, 60]), (1 << 200 | 1 << 64 | 1 << 63, [63, 64, 200]),
        ):
            with self.subTest(word=word):
                self.assertEqual(bits_of(word), wanted)
                self.assertIs(type(bits_of(word)), list)

    def test_each_small_word(self):
        for word in range(600):
            self.assertEqual(bits_of(word), [bit for bit in range(12) if word // 2 ** bit % 2 == 1])

    def test_told_lists_are_the_askers_own(self):
        told = bits_of(6)
        told.append(9)
        self.assertEqual(bits_of(6), [1, 2])


class WordsTest(unittest.TestCase):

    def test_each_small_number(self):
        for bells in range(7):
            words = {sum(1 << bell for bell in some)
                     for count in range(bells + 1) for some in itertools.combinations(range(1, bells + 1), count)}
            for number in range(-300, 600):
                with self.subTest(bells=bells, number=number):
                    self.assertIs(is_word(bells, number), number in words)

    def test_far_numbers(self):
        for bells in range(7):
            for number in (1 << (bells + 1), 1 << (bells + 2), 1 << 30, 1 << 60, (1 << 60) + 2, -(1 << 60), -2, -1, 10 ** 30):
                with self.subTest(bells=bells, number=number):
                    self.assertIs(is_word(bells, number), False)
            self.assertIs(is_word(bells, (1 << (bells + 1)) - 2), True)
            self.assertIs(is_word(bells, (1 << (bells + 1)) - 1), False)
            self.assertIs(is_word(bells, 0), True)

    def test_arguments_by_name(self):
        self.assertIs(is_word(bells=2, number=6), True)
        self.assertEqual(bits_of(word=6), [1, 2])


class BestTest(unittest.TestCase):

    def test_told(self):
        ranks = (0, 3, 5, 5, 1, 9, 3)
        for flags, floor, shut, wanted in (
            (0, 0, 0, 0),
            (126, 0, 0, 5),
            (126, 9, 0, 0),
            (126, 8, 0, 5),
            (126, 0, 1 << 5, 2),
            (126, 0, 1 << 5 | 1 << 2, 3),
            (126, 4, 1 << 5 | 1 << 2 | 1 << 3, 0),
            (126, 3, 1 << 5 | 1 << 2 | 1 << 3, 0),
            (126, 2, 1 << 5 | 1 << 2 | 1 << 3, 1),
            (126, 2, 1 << 5 | 1 << 2 | 1 << 3 | 1 << 1, 6),
            (126, 0, 126, 0),
            (126, 0, 126 - (1 << 4), 4),
            (126, 1, 126 - (1 << 4), 0),
            (1 << 1 | 1 << 6, 0, 0, 1),
            (1 << 6, 0, 0, 6),
            (1 << 3 | 1 << 2, 4, 0, 2),
            (1 << 3 | 1 << 2, 5, 0, 0),
            (1 << 4, 0, 0, 4),
            (1 << 4, 0, 1 << 5, 4),
            (1 << 4, 0, 1 << 4, 0),
        ):
            with self.subTest(flags=flags, floor=floor, shut=shut):
                self.assertEqual(best(ranks, flags, floor, shut), wanted)
                self.assertIs(type(best(ranks, flags, floor, shut)), int)

    def test_all_of_three_bells(self):
        for low, mid, high in itertools.product((1, 2, 9), repeat=3):
            ranks = (0, low, mid, high)
            for flags, shut, floor in itertools.product(range(0, 16, 2), range(0, 16, 2), range(10)):
                ready = [bell for bell in (1, 2, 3) if flags & ~shut & (1 << bell) and ranks[bell] > floor]
                wanted = min(ready, key=lambda bell: (-ranks[bell], bell), default=0)
                self.assertEqual(best(ranks, flags, floor, shut), wanted, (ranks, flags, floor, shut))

    def test_without_bells_and_by_name(self):
        self.assertEqual(best((0,), 0, 0, 0), 0)
        self.assertEqual(best(ranks=(0, 1), flags=2, floor=0, shut=0), 1)


if __name__ == "__main__":
    unittest.main()
