"""Promises 3, 10 and 11: the first line of a program's text that can't stand is refused, with its place."""

import unittest

from bellnest.errors import BellError, NoText
from bellnest.reading import read

from helper import lines_wanted, programs_drawn

BASE = [
    "box a 1",
    "box b 2 3",
    "box c -4 5",
    "box d 0",
    "box t 7",
    "bell x 3",
    "bell yy 9",
    "row main",
    "shut x yy",
    "put a 5",
    "put b 1 -2",
    "open",
    "copy a d",
    "copy b c",
    "grow b 4",
    "tick t",
    "still 9",
    "here a is d plus -1",
    "here b most c plus 0",
    "none c",
    "anew b from c by t",
    "row x",
    "still 1",
    "row yy",
    "tick a",
]

HEAD = BASE[:7]
BELLS = ["row x", "still 1", "row yy", "still 1"]


def blanks_wrong(line):
    """The line with one blank too many or too few, in every way."""
    words = line.split(" ")
    found = [" " + line, line + " ", "  " + line, line + "  "]
    for k in range(1, len(words)):
        ahead, behind = " ".join(words[:k]), " ".join(words[k:])
        found += [ahead + "  " + behind, ahead + "   " + behind]
        # two starts that grow together are one
        if not (words[0] == "box" and k == 3):
            found.append(ahead + behind)
    return found


def letters_wrong(line):
    """The line with great letters: all of them, or the first one of one word."""
    words = line.split(" ")
    found = []
    for k, word in enumerate(words):
        for great in (word.upper(), word.capitalize()):
            if great != word:
                found.append(" ".join(words[:k] + [great] + words[k + 1:]))
    return found


class RefusalsTest(unittest.TestCase):

    def refuse(self, lines, place):
        handed = list(lines)
        with self.subTest(lines=lines):
            with self.assertRaises(NoText) as caught:
                read(handed)
            self.assertEqual(caught.exception.place, place)
            self.assertIs(type(caught.exception.place), int)
            self.assertIsInstance(caught.exception, BellError)
            self.assertEqual(handed, lines)

    def refuse_in_row(self, good, bad, more=()):
        """Behind good lines of main's row a bad one, whatever comes behind."""
        lines = HEAD + ["row main"] + list(good) + [bad]
        self.refuse(lines + list(more) + BELLS, len(lines) - 1)
        self.refuse(lines, len(lines) - 1)

    def swap(self, place, line):
        """The base with another line at this place."""
        self.refuse(BASE[:place] + [line] + BASE[place + 1:], place)

    def test_the_base_can_be_read(self):
        self.assertEqual(len(read(BASE)[1]), 3)
        self.assertEqual(len(read(HEAD + ["row main", "still 1"] + BELLS)[1]), 3)

    def test_blanks(self):
        for place, line in enumerate(BASE):
            for bad in blanks_wrong(line):
                self.swap(place, bad)

    def test_great_letters(self):
        for place, line in enumerate(BASE):
            for bad in letters_wrong(line):
                self.swap(place, bad)

    def test_a_word_too_few(self):
        for place, line in enumerate(BASE):
            words = line.split(" ")
            for k in range(len(words)):
                bad = " ".join(words[:k] + words[k + 1:])
                # these lose a start or a bell, and can stand
                if not (words[0] == "box" and len(words) == 4 and k > 1 or words[0] == "shut" and k > 0):
                    self.swap(place, bad)
        self.swap(8, "shut")

    def test_a_word_too_many(self):
        for place, line in enumerate(BASE):
            words = line.split(" ")
            for more in ("a", "x", "1", "0", "main", "open", "plus"):
                for k in range(1, len(words) + 1):
                    bad = " ".join(words[:k] + [more] + words[k:])
                    can_stand = (
                        words[0] == "box" and len(words) == 3 and more in "01" and k > 1
                        or words[0] == "shut" and more == "x"
                    )
                    if not can_stand:
                        self.swap(place, bad)

    def test_lines_that_are_none(self):
        bad = ("", " ", "a", "1", "boxes a 1", "rows main", "end", "#", "row", "box", "bell", "shut", "put", "copy",
               "grow", "tick", "still", "here", "none", "anew", "main", "row row", "bar main 0 x", "~", "is a d plus 1",
               "most a d plus 1")
        for line in bad:
            for place in range(len(BASE)):
                self.swap(place, line)
            self.refuse(BASE + [line], len(BASE))
            self.refuse([line], 0)

    def test_numbers_that_are_none(self):
        bad = ("-0", "00", "01", "-01", "+1", "-", "1_0", "1.0", "1000000001", "-1000000001", "a", "9" * 150, "1-", "--1")
        for number in bad:
            self.refuse([f"box a {number}"], 0)
            self.refuse([f"box a 1 {number}"], 0)
            self.refuse([f"box a {number} 1"], 0)
            for line in (f"put a {number}", f"put b {number} 1", f"put b 1 {number}", f"grow a {number}",
                         f"grow b {number}", f"still {number}", f"here a is d plus {number}",
                         f"here b most c plus {number}"):
                self.refuse_in_row([], line)

    def test_both_bounds_of_numbers_can_stand(self):
        for number in ("1000000000", "-1000000000"):
            lines = [f"box a {number}", f"box b {number} {number}", "row main", f"put a {number}",
                     f"put b {number} {number}", f"grow a {number}", f"here a is a plus {number}"]
            self.assertEqual(len(read(lines)[1][0][2]), 4)

    def test_names_that_are_none(self):
        for name in ("", "abcdefghi", "A", "a1", "1", "a-b", "a_b", "aB"):
            self.refuse([f"box {name} 1", "row main", "still 1"], 0)
            self.refuse([f"bell {name} 1", "row main", "still 1"], 0)

    def test_names_that_are_not_there(self):
        for name in ("e", "x", "yy", "aa", "main", "ab"):
            for line in (f"put {name} 1", f"copy {name} a", f"copy a {name}", f"grow {name} 1", f"tick {name}",
                         f"here {name} is a plus 0", f"here a is {name} plus 0", f"here {name} most a plus 0",
                         f"here a most {name} plus 0", f"none {name}", f"anew {name} from a by t",
                         f"anew a from {name} by t", f"anew a from d by {name}"):
                self.refuse_in_row([], line)
        for name in ("a", "b", "y", "yyy", "main", "z"):
            for line in (f"shut {name}", f"shut x {name}", f"shut {name} x"):
                self.refuse_in_row([], line, ["still 1", "open"])
        self.refuse(["row main", "tick a"], 1)
        self.refuse(["row main", "shut x", "still 1", "open"], 1)

    def test_deeds_that_their_boxes_do_not_bear(self):
        for line in ("put a 1 2", "put b 1", "put b 1 2 3", "put a", "copy a a", "copy b b", "copy a b", "copy b a",
                     "tick b", "tick c", "here a is b plus 0", "here b is a plus 0", "here a most c plus 0",
                     "here c most a plus 0", "anew a from a by t", "anew a from d by a", "anew a from d by d",
                     "anew t from a by t", "anew a from b by t", "anew b from a by t", "anew b from b by t",
                     "anew a from d by b", "anew b from c by c", "anew b from c by b", "anew a from t by t",
                     "anew a from a by a"):
            self.refuse_in_row([], line)
            self.refuse_in_row(["tick a", "shut x"], line)

    def test_bad_stills(self):
        for number in ("0", "10", "-1", "99", "1000000000", "01"):
            self.refuse_in_row([], f"still {number}")
            self.refuse_in_row(["still 9"], f"still {number}")

    def test_bad_words_of_here_and_anew(self):
        for line in ("here a iss d plus 0", "here a d plus 0", "here a is d minus 0", "here a is d 0", "here a least d plus 0",
                     "here a is d plus", "here a plus d is 0", "anew a of d by t", "anew a from d at t", "anew a d t",
                     "anew a by d from t", "anew a from d", "here a none d plus 0"):
            self.refuse_in_row([], line)

    def test_bad_ranks(self):
        for rank in ("0", "10", "11", "99", "-1", "a", "01", "+1", "1.", "", "1 1", "123"):
            self.refuse([f"bell x {rank}", "row main", "still 1", "row x", "still 1"], 0)
            self.refuse(["box a 1", "bell y 1", f"bell x {rank}"], 2)

    def test_named_twice(self):
        self.refuse(["box a 1", "box a 1"], 1)
        self.refuse(["box a 1", "box b 1", "box a 1 2", "row main", "still 1"], 2)
        self.refuse(["bell x 1", "bell x 1"], 1)
        self.refuse(["bell x 1", "bell y 2", "bell x 3", "row main", "still 1"], 2)

    def test_main_is_no_bell(self):
        self.refuse(["bell main 1", "row main", "still 1"], 0)
        self.refuse(["bell x 1", "bell main 1", "row main", "still 1"], 1)
        self.refuse_in_row([], "shut main", ["still 1", "open"])
        self.refuse_in_row([], "shut x main", ["still 1", "open"])
        self.refuse_in_row([], "shut main x", ["still 1", "open"])
        self.refuse(["row main", "shut main", "still 1", "open"], 1)

    def test_one_too_many(self):
        boxes = [f"box {name} 1" for name in "abcdefgh"]
        self.refuse(boxes + ["box i 1", "row main", "still 1"], 8)
        bells = [f"bell {name} 1" for name in "abcdef"]
        rows = [line for name in "abcdef" for line in (f"row {name}", "still 1")]
        self.refuse(bells + ["bell g 1", "row main", "still 1"] + rows, 6)
        self.refuse(boxes + bells + ["bell g 1"], 14)
        for deed in ("still 1", "tick a", "none b"):
            self.refuse_in_row(["still 1"] * 12, deed)
            self.refuse_in_row(["shut x"] + ["still 1"] * 12 + ["open"], deed)
            self.refuse_in_row(["shut x"] + ["still 1"] * 12 + ["open", "shut x"], deed)
        self.refuse(["bell x 1", "row main", "still 1", "row x"] + ["still 1"] * 13, 16)
        self.refuse_in_row(["shut x"] * 12, "shut x", ["still 1"] + ["open"] * 13)
        self.refuse_in_row(["still 1"] * 12 + ["shut x"] * 12, "shut yy", ["open"] * 13)
        self.refuse_in_row(["shut x"] * 12 + ["open", "shut x"], "shut yy")

    def test_as_many_as_may_be_can_stand(self):
        boxes = [f"box {name} 1" for name in "abcdefgh"]
        bells = [f"bell {name} 1" for name in "abcdef"]
        rows = [line for name in "abcdef" for line in [f"row {name}"] + ["still 1"] * 12]
        program = read(boxes + bells + ["row main"] + ["still 1"] * 12 + rows)
        self.assertEqual((len(program[0]), [len(row[2]) for row in program[1]]), (8, [12] * 7))

    def test_rows_out_of_order(self):
        self.refuse(["bell x 1", "bell y 1", "row x", "still 1"], 2)
        self.refuse(["bell x 1", "bell y 1", "row main", "still 1", "row y", "still 1", "row x", "still 1"], 4)
        self.refuse(["bell x 1", "bell y 1", "row main", "still 1", "row x", "still 1", "row x", "still 1"], 6)
        self.refuse(["bell x 1", "row main", "still 1", "row main", "still 1"], 3)
        self.refuse(["bell x 1", "row main", "still 1", "row x", "still 1", "row main", "still 1"], 5)
        self.refuse(["bell x 1", "row main", "still 1", "row z", "still 1"], 3)
        self.refuse(["row main", "still 1", "row main"], 2)
        self.refuse(["row main", "still 1", "row"], 2)
        self.refuse(["row x"], 0)
        self.refuse(["box x 1", "row x"], 1)

    def test_kinds_of_lines_out_of_order(self):
        self.refuse(["bell x 1", "box a 1"], 1)
        self.refuse(["row main", "box a 1"], 1)
        self.refuse(["row main", "bell x 1"], 1)
        self.refuse(["row main", "still 1", "box a 1"], 2)
        self.refuse(["row main", "still 1", "bell x 1"], 2)
        self.refuse(["still 1", "row main", "still 1"], 0)
        self.refuse(["box a 1", "tick a"], 1)
        self.refuse(["bell x 1", "shut x"], 1)
        self.refuse(["bell x 1", "open"], 1)
        self.refuse(["open"], 0)
        self.refuse(["bell x 1", "still 1"], 1)

    def test_rows_without_a_deed(self):
        self.refuse(["bell x 1", "row main", "row x", "still 1"], 2)
        self.refuse(["bell x 1", "row main", "shut x", "open", "row x", "still 1"], 4)
        self.refuse(["bell x 1", "bell y 1", "row main", "still 1", "row x", "row y", "still 1"], 5)

    def test_stretches_that_are_not_ended(self):
        self.refuse(["bell x 1", "row main", "shut x", "still 1", "row x", "still 1"], 4)
        self.refuse(["bell x 1", "row main", "still 1", "shut x", "row x", "still 1"], 4)
        self.refuse(["bell x 1", "row main", "shut x", "shut x", "still 1", "open", "row x", "still 1"], 6)
        self.refuse(["bell x 1", "bell y 1", "row main", "still 1", "row x", "shut y", "still 1", "row y"], 7)

    def test_an_open_too_many(self):
        self.refuse_in_row([], "open", ["still 1"])
        self.refuse_in_row(["still 1"], "open")
        self.refuse_in_row(["shut x", "still 1", "open"], "open")
        self.refuse_in_row(["shut x", "shut yy", "open", "open"], "open", ["still 1"])
        self.refuse_in_row(["still 1"] * 12, "open")
        self.refuse(["bell x 1", "row main", "shut x", "still 1", "open", "row x", "open", "still 1"], 6)

    def test_the_list_ends_too_early(self):
        for place in range(len(BASE)):
            self.refuse(BASE[:place], place)
        self.refuse([], 0)
        self.refuse(["row main"], 1)
        self.refuse(["bell x 1", "row main", "still 1", "row x", "shut x", "still 1"], 6)
        self.refuse(["bell x 1", "row main", "still 1", "row x", "still 1", "shut x"], 6)
        self.refuse(["bell x 1", "row main", "still 1", "row x", "shut x", "open"], 6)
        self.refuse(["bell x 1", "row main", "still 1", "row x"], 4)
        self.refuse(["bell x 1", "row main", "still 1"], 3)

    def test_lines_behind_the_last_row(self):
        for line in ("row main", "row x", "row yy", "box e 1", "bell z 1", "open", "", "still 0", "tick b", " still 1"):
            self.refuse(BASE + [line], len(BASE))
            self.refuse(BASE + ["still 1", line, "still 1"], len(BASE) + 1)

    def test_of_two_bad_lines_the_first_is_told(self):
        for first in range(len(BASE)):
            for second in range(first + 1, len(BASE)):
                lines = list(BASE)
                lines[first] = "tick nobox"
                lines[second] = "row nobell"
                self.refuse(lines, first)
        self.refuse(["box a 1", "box a 1", "box a 1"], 1)
        self.refuse(["box a 1", "tick a", "row main"], 1)

    def test_what_was_refused_changes_nothing(self):
        for place in range(len(BASE)):
            self.refuse(BASE[:place] + ["no line"] + BASE[place:], place)
            self.assertEqual(lines_wanted(read(BASE))[:8], BASE[:8])

    def test_drawn_programs_cut_off_and_with_a_line_put_in(self):
        for program in programs_drawn(range(60), boxes=6, bells=4, places=6, shut=0.3):
            lines = lines_wanted(program)
            last = len(lines) - 1 - lines[::-1].index(f"row {program[1][-1][0]}")
            for place in range(last + 1):
                self.refuse(lines[:place], place)
            for place in range(len(lines) + 1):
                self.refuse(lines[:place] + ["tick"] + lines[place:], place)


if __name__ == "__main__":
    unittest.main()
