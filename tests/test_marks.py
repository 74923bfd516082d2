"""Promises 9 and 10 where they speak of names and of written numbers: bellnest.marks."""

import string
import unittest

from bellnest.marks import is_name, number_of

NAMES = tuple(string.ascii_lowercase) + ("ab", "abc", "abcd", "zzzzzzz", "abcdefgh", "main", "box", "aaaaaaaa")
NO_NAMES = (
    "", "abcdefghi", "a" * 200, "A", "Z", "aB", "Ba", "abcdefgH", "a1", "1a", "1", "0", " ", " a", "a ", "a b",
    "a_b", "_", "a-b", "-", "a.", "`", "{", "@", "[", "a`", "{a", "a\n", "\na", "a\t", "\u00e9", "a\u00e9",
    "\u00df", "\u03b1", "\u0131", "\uff41", "\u00aa", "a\u0301",
)

LOW, HIGH = -1000000000, 1000000000
NUMBERS = (
    ("0", 0), ("1", 1), ("9", 9), ("10", 10), ("100", 100), ("101", 101), ("1234567890"[:9], 123456789),
    ("-1", -1), ("-9", -9), ("-10", -10), ("-101", -101), ("999999999", 999999999), ("-999999999", -999999999),
    ("1000000000", HIGH), ("-1000000000", LOW), ("987654321", 987654321),
)
NO_NUMBERS = (
    "", " ", "-", "+", "--", "-0", "+0", "00", "000", "01", "-01", "001", "+1", "--1", "-+1", "+-1", "1-", "1+",
    " 1", "1 ", "- 1", "-1 ", " -1", "1 0", "1_0", "1_000", "_1", "1_", "1.0", "1.", ".1", "1,0", "1e3", "1E3", "0x1",
    "0b1", "0o7", "a", "1a", "a1", "one", "1000000001", "-1000000001", "2000000000", "9999999999", "-9999999999",
    "10000000000", "0.0", "-0.0", "1\n", "\n1", "1\t", "0 ", " 0", "0\n", "\u0661", "\u00b2", "1\u00b2", "\uff11",
    "-\uff11", "\u22121", "\u06f0", "1\u0660", "1\u200b", "\u00bd", "9" * 199, "-" + "9" * 199, "1" + "0" * 198,
    "0" * 199, "0" * 198 + "1", "1" * 200, "x" * 200,
)


class MarksTest(unittest.TestCase):

    def test_names(self):
        for text in NAMES:
            with self.subTest(text=text):
                self.assertIs(is_name(text), True)

    def test_no_names(self):
        for text in NO_NAMES:
            with self.subTest(text=text):
                self.assertIs(is_name(text), False)

    def test_lengths_of_names(self):
        for length in range(201):
            with self.subTest(length=length):
                self.assertIs(is_name("q" * length), 1 <= length <= 8)

    def test_each_sign_as_a_name_and_within_one(self):
        for number in range(0, 0x250):
            sign = chr(number)
            with self.subTest(sign=sign):
                for text in (sign, "a" + sign, sign + "a", "a" + sign + "a"):
                    self.assertIs(is_name(text), sign in string.ascii_lowercase)

    def test_numbers(self):
        for text, number in NUMBERS:
            with self.subTest(text=text):
                self.assertEqual(number_of(text), number)
                self.assertIs(type(number_of(text)), int)

    def test_no_numbers(self):
        for text in NO_NUMBERS:
            with self.subTest(text=text):
                self.assertIsNone(number_of(text))

    def test_numbers_as_python_writes_them(self):
        for number in list(range(-1200, 1201)) + [HIGH - 1, LOW + 1, HIGH, LOW, 10 ** 8, -10 ** 8]:
            with self.subTest(number=number):
                self.assertEqual(number_of(str(number)), number)
        for number in (HIGH + 1, LOW - 1, HIGH * 10, 10 ** 30, -10 ** 30):
            with self.subTest(number=number):
                self.assertIsNone(number_of(str(number)))

    def test_each_sign_within_a_number(self):
        for number in range(0, 0x250):
            sign = chr(number)
            figure = sign in string.digits
            with self.subTest(sign=sign):
                self.assertEqual(number_of(sign), int(sign) if figure else None)
                self.assertEqual(number_of("1" + sign), 10 + int(sign) if figure else None)
                self.assertEqual(number_of("1" + sign + "1"), 101 + 10 * int(sign) if figure else None)
                if figure:
                    self.assertEqual(number_of(sign + "1"), 10 * int(sign) + 1 if sign != "0" else None)
                else:
                    self.assertEqual(number_of(sign + "1"), -1 if sign == "-" else None)

    def test_arguments_by_name(self):
        self.assertIs(is_name(text="a"), True)
        self.assertEqual(number_of(text="-7"), -7)


if __name__ == "__main__":
    unittest.main()
