"""Promises 8 to 10 and 12: programs are read from text, and shown as text. What is refused stands in test_refusals."""

import unittest

from bellnest.reading import read
from bellnest.showing import shown

from helper import lines_wanted, programs_drawn

LOW, HIGH = -1000000000, 1000000000


STILL = ("still", 1)

# lines, and the program that they tell
TOLD = (
    (["row main", "still 1"], ((), (("main", 0, ((STILL, 0),)),))),
    (["box a 0", "row main", "tick a"], ((("a", (0,)),), (("main", 0, ((("tick", 0), 0),)),))),
    (
        ["box a -1000000000", "box b 1000000000 -7", "row main", "still 9"],
        ((("a", (LOW,)), ("b", (HIGH, -7))), (("main", 0, ((("still", 9), 0),)),)),
    ),
    (
        ["bell x 9", "row main", "still 1", "row x", "still 2", "still 3"],
        ((), (("main", 0, ((STILL, 0),)), ("x", 9, ((("still", 2), 0), (("still", 3), 0))))),
    ),
    (
        ["bell x 1", "bell y 1", "row main", "shut x y", "still 1", "open", "row x", "shut y", "still 1", "open",
         "row y", "still 1"],
        ((), (("main", 0, ((STILL, 6),)), ("x", 1, ((STILL, 4),)), ("y", 1, ((STILL, 0),)))),
    ),
)

# a line of a deed with boxes a, c, t of one cell and b, d of two, and the deed
BOX_LINES = ["box a 1", "box b 2 3", "box c 4", "box d 5 6", "box t 7"]
DEEDS = (
    ("put a 0", ("put", 0, (0,))),
    ("put t -1000000000", ("put", 4, (LOW,))),
    ("put b 1 -2", ("put", 1, (1, -2))),
    ("put d 1000000000 0", ("put", 3, (HIGH, 0))),
    ("copy a c", ("copy", 0, 2)),
    ("copy c a", ("copy", 2, 0)),
    ("copy b d", ("copy", 1, 3)),
    ("copy d b", ("copy", 3, 1)),
    ("grow a 5", ("grow", 0, 5)),
    ("grow b -1000000000", ("grow", 1, LOW)),
    ("grow d 0", ("grow", 3, 0)),
    ("tick a", ("tick", 0)),
    ("tick t", ("tick", 4)),
    ("still 1", ("still", 1)),
    ("still 5", ("still", 5)),
    ("still 9", ("still", 9)),
    ("here a is c plus 0", ("is", 0, 2, 0)),
    ("here c is a plus -3", ("is", 2, 0, -3)),
    ("here a is a plus 1", ("is", 0, 0, 1)),
    ("here b is d plus 1000000000", ("is", 1, 3, HIGH)),
    ("here b is b plus 0", ("is", 1, 1, 0)),
    ("here t most a plus 7", ("most", 4, 0, 7)),
    ("here d most b plus -1000000000", ("most", 3, 1, LOW)),
    ("here d most d plus 0", ("most", 3, 3, 0)),
    ("none a", ("none", 0)),
    ("none d", ("none", 3)),
    ("anew a from c by t", ("anew", 0, 2, 4)),
    ("anew t from a by c", ("anew", 4, 0, 2)),
    ("anew b from d by t", ("anew", 1, 3, 4)),
    ("anew d from b by a", ("anew", 3, 1, 0)),
)


class ReadingTest(unittest.TestCase):

    def expect(self, lines, program):
        told = read(lines)
        self.assertEqual(told, program)
        self.same_kinds(told, program)

    def same_kinds(self, told, wanted):
        self.assertIs(type(told), type(wanted), told)
        if isinstance(wanted, tuple):
            for one, other in zip(told, wanted):
                self.same_kinds(one, other)

    def test_small_programs(self):
        for lines, program in TOLD:
            with self.subTest(lines=lines):
                self.expect(lines, program)

    def test_every_kind_of_deed(self):
        boxes = (("a", (1,)), ("b", (2, 3)), ("c", (4,)), ("d", (5, 6)), ("t", (7,)))
        for line, deed in DEEDS:
            with self.subTest(line=line):
                self.expect(BOX_LINES + ["row main", line], (boxes, (("main", 0, ((deed, 0),)),)))
                bell = BOX_LINES + ["bell a 4", "row main", "still 1", "row a", "shut a", line, "open"]
                self.expect(bell, (boxes, (("main", 0, ((STILL, 0),)), ("a", 4, ((deed, 2),)))))

    def test_every_rank(self):
        for rank in range(1, 10):
            lines = ["bell x 3", f"bell y {rank}", "row main", "still 1", "row x", "still 1", "row y", "still 1"]
            self.assertEqual([row[1] for row in read(lines)[1]], [0, 3, rank])

    def test_the_greatest_program(self):
        lines = [f"box {name} 1 2" for name in "abcdefgh"]
        lines += [f"bell {name} 5" for name in "uvwxyz"]
        rows = []
        for number, row in enumerate(("main", "u", "v", "w", "x", "y", "z")):
            lines.append(f"row {row}")
            lines += [f"put h {place} {number}" for place in range(12)]
            places = tuple((("put", 7, (place, number)), 0) for place in range(12))
            rows.append((row, 5 if number else 0, places))
        boxes = tuple((name, (1, 2)) for name in "abcdefgh")
        self.expect(lines, (boxes, tuple(rows)))

    def test_names_that_are_beginnings_of_one_another(self):
        boxes = ("a", "aa", "aaa", "aaaaaaaa", "ab", "b")
        bells = ("a", "ab", "abcdefgh", "b", "aa")
        lines = [f"box {name} {k}" for k, name in enumerate(boxes)] + [f"bell {name} 1" for name in bells]
        lines += ["row main"] + [f"tick {name}" for name in boxes]
        for name in bells:
            lines += [f"row {name}", f"shut {name}", "still 1", "open"]
        program = read(lines)
        self.assertEqual([deed for deed, word in program[1][0][2]], [("tick", k) for k in range(6)])
        self.assertEqual([row[2] for row in program[1][1:]], [((STILL, 1 << k),) for k in range(1, 6)])
        self.assertEqual([box[0] for box in program[0]], list(boxes))
        self.assertEqual([row[0] for row in program[1]], ["main"] + list(bells))

    def test_names_that_are_words_of_the_lines(self):
        for words in (
            ("box", "bell", "row", "main", "shut", "open", "put", "copy"),
            ("grow", "tick", "still", "here", "is", "most", "plus", "none"),
            ("anew", "from", "by", "x", "n", "t", "rank", "name"),
        ):
            bells = [word for word in words if word != "main"][:6]
            lines = [f"box {word} {k}" for k, word in enumerate(words)] + [f"bell {word} 2" for word in bells]
            lines += ["row main"] + [f"tick {word}" for word in words]
            lines += [f"here {words[0]} is {words[1]} plus 3", f"here {words[2]} most {words[3]} plus 0"]
            lines += [f"anew {words[4]} from {words[5]} by {words[6]}", f"copy {words[6]} {words[7]}"]
            for word in bells:
                lines += [f"row {word}", f"shut {word} {bells[0]}", f"none {word}", "open"]
            program = read(lines)
            deeds = [deed for deed, word in program[1][0][2]]
            self.assertEqual(deeds[:8], [("tick", k) for k in range(8)])
            self.assertEqual(deeds[8:], [("is", 0, 1, 3), ("most", 2, 3, 0), ("anew", 4, 5, 6), ("copy", 6, 7)])
            for k, word in enumerate(bells, start=1):
                self.assertEqual(program[1][k], (word, 2, ((("none", words.index(word)), 1 << k | 2),)))
            self.assertEqual(read(shown(program)), program)

    def test_a_box_and_a_bell_of_like_names(self):
        lines = ["box a 1", "bell a 2", "row main", "shut a", "tick a", "open", "row a", "none a"]
        self.expect(lines, ((("a", (1,)),), (("main", 0, ((("tick", 0), 2),)), ("a", 2, ((("none", 0), 0),)))))

    def test_what_is_handed_in_stays(self):
        for lines, program in TOLD:
            handed = list(lines)
            told = read(handed)
            self.assertEqual(handed, lines)
            handed.clear()
            self.assertEqual(told, program)
            self.assertEqual(read(lines), program)

    def test_arguments_by_name(self):
        self.assertEqual(read(lines=TOLD[0][0]), TOLD[0][1])
        self.assertEqual(shown(program=TOLD[0][1]), TOLD[0][0])


# the lines of main's row with bells u to z (bits 2, 4, 8, 16, 32, 64), and the words of its places
STRETCHES = (
    (["still 1"], [0]),
    (["shut u", "still 1", "open"], [2]),
    (["shut z", "still 1", "open"], [64]),
    (["shut z u", "still 1", "open"], [66]),
    (["shut u z", "still 1", "open", "still 1"], [66, 0]),
    (["shut u v w x y z", "still 1", "open"], [126]),
    (["shut u u", "still 1", "open"], [2]),
    (["shut v u v u v", "still 1", "open"], [6]),
    (["still 1", "shut u", "still 1", "still 1", "open", "still 1"], [0, 2, 2, 0]),
    # apart
    (["shut u", "still 1", "open", "shut v", "still 1", "open"], [2, 4]),
    (["shut u", "still 1", "open", "still 1", "shut u", "still 1", "open"], [2, 0, 2]),
    # within one another: the stretch that was begun last ends first
    (["shut u", "still 1", "shut v", "still 1", "open", "still 1", "open", "still 1"], [2, 6, 2, 0]),
    (["shut v", "shut u", "still 1", "open", "still 1", "open", "still 1"], [6, 4, 0]),
    (["shut u", "shut u", "still 1", "open", "still 1", "open", "still 1"], [2, 2, 0]),
    (["shut u v", "shut v w", "still 1", "open", "still 1", "open"], [14, 6]),
    (["shut u", "shut v", "open", "still 1", "shut w", "still 1", "open", "open"], [2, 10]),
    (["shut u", "shut v", "shut w", "still 1", "open", "still 1", "open", "still 1", "open"], [14, 6, 2]),
    # without a deed
    (["shut u", "open", "still 1"], [0]),
    (["still 1", "shut u", "open"], [0]),
    (["shut u", "shut v", "open", "open", "shut w", "open", "still 1", "shut x", "open"], [0]),
    (["shut u", "still 1", "shut v", "open", "still 1", "open"], [2, 2]),
    # behind the twelfth deed
    (["still 1"] * 12 + ["shut u", "open"], [0] * 12),
    (["still 1"] * 11 + ["shut v", "still 1", "shut u", "open", "open"], [0] * 11 + [4]),
    (["still 1"] * 12 + ["shut u"] * 12 + ["open"] * 12, [0] * 12),
    # twelve at once
    (["shut u"] * 12 + ["still 1"] + ["open"] * 12, [2]),
    (["shut u"] * 11 + ["shut v", "still 1"] + ["open", "still 1"] + ["open"] * 11, [6, 2]),
    (["shut u"] * 12 + ["open", "shut w", "still 1"] + ["open"] * 12, [10]),
    ((["shut u"] * 12 + ["open"] * 12) * 2 + ["still 1"], [0]),
)


class StretchesTest(unittest.TestCase):

    def test_words_of_places(self):
        bells = [f"bell {name} 1" for name in "uvwxyz"]
        others = [line for name in "uvwxyz" for line in (f"row {name}", "still 1")]
        for lines, words in STRETCHES:
            with self.subTest(lines=lines):
                program = read(bells + ["row main"] + lines + others)
                self.assertEqual(program[1][0][2], tuple((STILL, word) for word in words))
                self.assertEqual([row[2] for row in program[1][1:]], [((STILL, 0),)] * 6)

    def test_words_of_a_bells_places(self):
        bells = [f"bell {name} 1" for name in "uvwxyz"]
        for lines, words in STRETCHES:
            for number, owner in enumerate("uvwxyz", start=1):
                text = bells + ["row main", "still 1"]
                for name in "uvwxyz":
                    text += [f"row {name}"] + (lines if name == owner else ["still 1"])
                with self.subTest(lines=lines, owner=owner):
                    program = read(text)
                    self.assertEqual(program[1][number][2], tuple((STILL, word) for word in words))
                    self.assertEqual(sum(len(row[2]) for row in program[1]), 6 + len(words))


class ShowingTest(unittest.TestCase):

    def test_small_programs(self):
        for lines, program in TOLD:
            with self.subTest(lines=lines):
                self.assertEqual(shown(program), lines)

    def test_every_kind_of_deed(self):
        for line, deed in DEEDS:
            lines = BOX_LINES + ["row main", line]
            with self.subTest(line=line):
                self.assertEqual(shown(read(lines)), lines)

    def test_stretches_are_shown_each_around_one_place(self):
        bells = [f"bell {name} 1" for name in "uvwxyz"]
        others = [line for name in "uvwxyz" for line in (f"row {name}", "still 1")]
        for lines, words in STRETCHES:
            wanted = []
            for word in words:
                names = [name for bit, name in enumerate("uvwxyz", start=1) if word & (1 << bit)]
                wanted += ["shut " + " ".join(names), "still 1", "open"] if names else ["still 1"]
            with self.subTest(lines=lines):
                program = read(bells + ["row main"] + lines + others)
                self.assertEqual(shown(program), bells + ["row main"] + wanted + others)
                self.assertEqual(read(shown(program)), program)

    def test_drawn_programs(self):
        for program in programs_drawn(range(300), boxes=8, bells=6, places=12, shut=0.3, ranks=9):
            lines = lines_wanted(program)
            self.assertEqual(shown(program), lines)
            self.assertEqual(read(lines), program)

    def test_told_lists_are_the_askers_own(self):
        for lines, program in TOLD:
            told = shown(program)
            self.assertIs(type(told), list)
            told.append("still 1")
            told[0] = "row"
            self.assertEqual(shown(program), lines)
            self.assertEqual(read(lines), program)


if __name__ == "__main__":
    unittest.main()
