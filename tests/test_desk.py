"""Promise 33 and the interface's stage 9: the desk."""

import random
import unittest

from bellnest.desk import Desk
from bellnest.errors import BellError, NoBell, NoLine, NoText, TooMany

from helper import (
    bars_in, depth_of, fewest_to_break, lines_wanted, prices_of, programs_drawn, ringings_drawn, walked, with_bars,
)

PLAIN = [
    "box a 5",
    "box b 7 -8",
    "box t 0",
    "bell p 2",
    "bell q 5",
    "row main",
    "grow a 1",
    "shut p",
    "grow b -1000000000",
    "open",
    "none a",
    "row p",
    "tick a",
    "row q",
    "put b 1 2",
    "here a most a plus 0",
]
# three anews: sure, loose, sure; the second one's y is written by a bell that ticks no tally
ANEWS = [
    "box x 0", "box y 0", "box t 0",
    "bell lo 1", "bell hi 2",
    "row main", "still 1", "shut lo hi", "anew x from y by t", "open", "anew x from y by t",
    "row lo", "put y 3",
    "row hi", "anew x from y by t", "tick t",
]
BARE = ["row main", "still 2"]
BROKEN = ["box a 0", "bell p 1", "bell q 2", "row main", "still 1", "none a", "row p", "tick a", "row q", "still 1"]
NEVER = ["box a 0", "bell p 1", "row main", "still 1", "row p", "here a is a plus 1"]
# with one ringing 400 states, without any 100
WIDE = ["bell p 1", "row main"] + ["still 9"] * 11 + ["row p", "still 3"]


def state_of(desk):
    """All that a desk tells without being changed."""
    return [desk.say(line) for line in ("show", "run", "depth", "pairs", "anews")]


class DeskTest(unittest.TestCase):

    def expect(self, lines, said):
        """said: pairs of a line and its answer, in order, at one desk."""
        desk = Desk(list(lines))
        for line, wanted in said:
            with self.subTest(line=line):
                told = desk.say(line)
                self.assertEqual(told, wanted)
                self.assertIs(type(told), list)
                self.assertLessEqual({type(part) for part in told}, {str})
        return desk

    def test_show(self):
        for lines in (PLAIN, ANEWS, BARE, BROKEN):
            shown = Desk(lines).say("show")
            self.assertEqual(Desk(shown).say("show"), shown)
        self.expect(PLAIN, [("show", PLAIN)])
        self.expect(["bell p 1", "bell q 1", "row main", "shut q", "still 1", "shut p", "still 2", "open", "open",
                     "row p", "still 1", "row q", "still 1"],
                    [("show", ["bell p 1", "bell q 1", "row main", "shut q", "still 1", "open", "shut p q", "still 2",
                               "open", "row p", "still 1", "row q", "still 1"])])

    def test_run(self):
        self.expect(PLAIN, [
            ("run", ["turns 7", "cells 6 -999999993 -1000000008 0", "broken 0"]),
            ("run 0", ["turns 7", "cells 6 -999999993 -1000000008 0", "broken 0"]),
            ("run 0 0 0 0 0 0 0 0 0", ["turns 9", "cells 6 -999999993 -1000000008 0", "broken 0"]),
            ("run 0 2", ["turns 9", "cells 6 -999999993 -1000000008 0", "broken 0"]),
            ("run 2", ["turns 9", "cells 7 -999999993 -1000000008 0", "broken 0"]),
            ("run 0 0 0 0 0 0 2", ["turns 9", "cells 7 -999999993 -1000000008 0", "broken 1"]),
            ("run 0 0 0 0 0 0 4", ["turns 11", "cells 6 1 2 0", "broken 1"]),
            ("run 0 0 0 0 0 0 6", ["turns 13", "cells 7 1 2 0", "broken 2"]),
            ("run 6", ["turns 13", "cells 7 -999999999 -999999998 0", "broken 0"]),
        ])

    def test_run_without_cells_and_words(self):
        self.expect(BARE, [("run", ["turns 2", "cells", "broken 0"]), ("run 0 0 0", ["turns 3", "cells", "broken 0"])])

    def test_numbers_of_any_size(self):
        lines = ["box a 1000000000", "box b -1000000000 0", "row main"] + ["grow a 1000000000"] * 6
        lines += ["grow b -1000000000"] * 6
        self.expect(lines, [("run", ["turns 36", "cells 7000000000 -7000000000 -6000000000", "broken 0"])])
        lines = ["box a 0", "bell p 1", "row main", "still 1", "row p"] + ["grow a 1000000000"] * 12
        words = " ".join(["run"] + ["2"] + ["0 " * 24 + "2"] * 15)
        self.expect(lines, [(words, ["turns 401", "cells 192000000000", "broken 0"])])

    def test_depth(self):
        self.expect(BARE, [("depth", ["depth 0"])])
        self.expect(PLAIN, [("depth", ["depth 2"])])
        six = [f"bell {name} {rank}" for rank, name in enumerate("uvwxyz", start=1)]
        six += ["row main", "still 1"] + [line for name in "uvwxyz" for line in (f"row {name}", "still 1")]
        self.expect(six, [("depth", ["depth 6"])])

    def test_pairs(self):
        self.expect(BARE, [("pairs", ["rank 0", "shut 0", "half 0", "over 0"])])
        # main's grow of a with p's tick and q's here, main's grow of b with q's put, and q's put with main's grow
        self.expect(PLAIN, [("pairs", ["rank 1", "shut 0", "half 1", "over 2"])])
        self.expect(PLAIN, [("bar main 0 p", ["ok"]), ("pairs", ["rank 1", "shut 1", "half 1", "over 1"]),
                            ("bar main 0 q", ["ok"]), ("pairs", ["rank 1", "shut 2", "half 0", "over 1"]),
                            ("bar main 1 q", ["ok"]), ("pairs", ["rank 1", "shut 3", "half 0", "over 0"])])

    def test_anews(self):
        self.expect(BARE, [("anews", [])])
        self.expect(PLAIN, [("anews", [])])
        self.expect(ANEWS, [("anews", ["main 1 sure", "main 2 loose", "hi 0 sure"]),
                            ("bar main 2 lo", ["ok"]), ("anews", ["main 1 sure", "main 2 sure", "hi 0 sure"])])

    def test_judge(self):
        self.expect(BARE, [(f"judge {many}", ["held"]) for many in range(10)])
        self.expect(BROKEN, [("judge 0", ["held"]), ("judge 1", ["broken 1"]), ("judge 2", ["broken 1"])])
        self.expect(NEVER, [("judge 0", ["held"]), ("judge 1", ["broken 1"]), ("judge 9", ["broken 1"])])
        self.expect(["box a 0", "row main", "here a is a plus 1"], [("judge 0", ["broken 0"]), ("judge 9", ["broken 0"])])
        self.expect(["box a 0", "box c 0", "bell p 1", "row main", "still 1", "row p", "here a most c plus 2", "tick a"],
                    [("judge 3", ["held"]), ("judge 4", ["broken 4"]), ("judge 9", ["broken 4"])])

    def test_bar(self):
        shown = ["box a 0", "bell p 1", "bell q 2", "row main", "still 1", "shut p", "none a", "open", "row p", "tick a",
                 "row q", "still 1"]
        self.expect(BROKEN, [
            ("bar main 1 p", ["ok"]),
            ("show", shown),
            ("judge 2", ["held"]),
            ("run 0 2", ["turns 4", "cells 1", "broken 0"]),
            ("bar p 0 q", ["ok"]),
            ("bar main 1 q", ["ok"]),
            ("show", shown[:5] + ["shut p q"] + shown[6:9] + ["shut q", "tick a", "open"] + shown[10:]),
            ("depth", ["depth 1"]),
        ])

    def test_bars_that_are_none(self):
        desk = Desk(BROKEN)
        for line in (
            "bar main 2 p", "bar main -1 p", "bar main 99 p", "bar main 1 main", "bar main 1 r", "bar main 1 a", "bar r 0 p",
            "bar a 0 p", "bar q 0 p", "bar q 0 q", "bar p 0 p", "bar p 1 q", "bar p 0 main", "bar main 01 p", "bar main 1 P",
            "bar Main 1 p", "bar main +1 p", "bar main p 1", "bar 0 1 1", "bar main 1", "bar 1 p", "bar main 1 p q", "bar",
            "bar main 1 p p", "bar main -0 p", "bar main 0.0 p", "bar main 1000000001 p", "bar  main 1 p", "bar main 1 p ",
        ):
            self.refuse(desk, line, BROKEN)
        desk.say("bar main 1 p")
        told = desk.say("show")
        # now it is shut already
        self.refuse(desk, "bar main 1 p", told)
        self.assertEqual(desk.say("bar main 1 q"), ["ok"])

    def test_a_place_that_is_shut_in_the_text_already(self):
        desk = Desk(PLAIN)
        self.refuse(desk, "bar main 1 p", PLAIN)
        self.assertEqual(desk.say("bar main 1 q"), ["ok"])

    def test_mend(self):
        self.expect(BARE, [("mend 0", []), ("mend 9", []), ("show", BARE)])
        self.expect(NEVER, [("mend 0", []), ("mend 1", ["never"]), ("show", NEVER), ("mend 9", ["never"]), ("show", NEVER)])
        shown = ["box a 0", "bell p 1", "bell q 2", "row main", "still 1", "shut p", "none a", "open", "row p", "tick a",
                 "row q", "still 1"]
        self.expect(BROKEN, [
            ("mend 0", []), ("show", BROKEN), ("judge 1", ["broken 1"]), ("mend 1", ["bar main 1 p"]), ("show", shown),
            ("judge 2", ["held"]), ("mend 2", []), ("show", shown),
        ])
        lines = ["box a 0", "bell p 1", "bell q 2", "row main", "none a", "still 2", "none a", "row p", "none a", "row q",
                 "here a is a plus 0"]
        self.expect(lines, [
            ("mend 1", ["bar main 0 q", "bar main 1 q", "bar main 2 q"]),
            ("mend 2", ["bar p 0 q"]),
            ("judge 2", ["held"]),
        ])

    def test_names_like_words(self):
        lines = ["box run 1", "bell show 1", "bell bar 2", "bell mend 3", "row main", "none run", "row show", "still 1",
                 "row bar", "tick run", "row mend", "still 1"]
        self.expect(lines, [("bar show 0 bar", ["ok"]), ("bar bar 0 mend", ["ok"]), ("mend 1", ["bar main 0 bar"]),
                            ("bar main 0 mend", ["ok"]), ("depth", ["depth 2"])])

    def test_two_desks_beside_one_another(self):
        first, second = Desk(BROKEN), Desk(BROKEN)
        self.assertEqual(first.say("bar main 0 p"), ["ok"])
        self.assertEqual(second.say("show"), BROKEN)
        self.assertEqual(second.say("mend 1"), ["bar main 1 p"])
        self.assertEqual(second.say("bar main 0 p"), ["ok"])
        self.assertEqual(first.say("judge 1"), ["broken 1"])
        self.assertEqual(second.say("judge 1"), ["held"])

    def test_told_lists_are_the_askers_own(self):
        desk = Desk(ANEWS)
        for line in ("show", "run 2 0 4", "depth", "pairs", "anews", "judge 1", "mend 1"):
            told = desk.say(line)
            wanted = list(told)
            told.insert(0, "row")
            told.append("still 1")
            # a mended desk has nothing left to mend
            self.assertEqual(desk.say(line), wanted if line != "mend 1" else [])
        self.assertEqual(desk.say("show")[0], "box x 0")

    def test_the_lines_that_were_handed_in_may_be_changed(self):
        lines = list(BROKEN)
        desk = Desk(lines)
        self.assertEqual(lines, BROKEN)
        lines.clear()
        self.assertEqual(desk.say("show"), BROKEN)
        self.assertEqual(desk.say("mend 1"), ["bar main 1 p"])

    def test_arguments_by_name(self):
        self.assertEqual(Desk(lines=BARE).say(line="depth"), ["depth 0"])

    def refuse(self, desk, line, shown):
        with self.subTest(line=line):
            before = state_of(desk)
            self.assertEqual(before[0], shown)
            with self.assertRaises(NoLine) as caught:
                desk.say(line)
            self.assertEqual(caught.exception.line, line)
            self.assertIsInstance(caught.exception, BellError)
            self.assertEqual(state_of(desk), before)


class RefusedLinesTest(unittest.TestCase):

    LINES = ("show", "run", "run 0", "run 2 0 4", "depth", "pairs", "anews", "judge 0", "judge 9", "bar main 0 p",
             "bar p 0 q", "mend 0", "mend 1", "mend 9")

    def setUp(self):
        self.desk = Desk(BROKEN)
        self.before = state_of(self.desk)

    def refuse(self, line):
        with self.subTest(line=line):
            with self.assertRaises(NoLine) as caught:
                self.desk.say(line)
            self.assertEqual(caught.exception.line, line)
            self.assertEqual(self.desk.say("show"), self.before[0])

    def tearDown(self):
        self.assertEqual(state_of(self.desk), self.before)

    def test_blanks(self):
        for line in self.LINES:
            words = line.split(" ")
            for bad in (" " + line, line + " ", "  " + line, line + "  "):
                self.refuse(bad)
            for k in range(1, len(words)):
                ahead, behind = " ".join(words[:k]), " ".join(words[k:])
                self.refuse(ahead + "  " + behind)
                # two numbers that grow together are one
                if not (words[0] == "run" and k > 1):
                    self.refuse(ahead + behind)

    def test_great_letters(self):
        for line in self.LINES:
            words = line.split(" ")
            for k, word in enumerate(words):
                for great in (word.upper(), word.capitalize()):
                    if great != word:
                        self.refuse(" ".join(words[:k] + [great] + words[k + 1:]))

    def test_a_word_too_few(self):
        for line in self.LINES:
            words = line.split(" ")
            for k in range(len(words)):
                if words[0] != "run" or k == 0:
                    self.refuse(" ".join(words[:k] + words[k + 1:]))

    def test_a_word_too_many(self):
        for line in self.LINES:
            words = line.split(" ")
            for more in ("0", "1", "p", "main", "show", "-1"):
                for k in range(len(words) + 1):
                    # a number more is still a row of ringings
                    if words[0] != "run" or k == 0 or more in ("p", "main", "show"):
                        self.refuse(" ".join(words[:k] + [more] + words[k:]))

    def test_numbers_that_are_none(self):
        for number in ("-0", "00", "01", "+1", "-", "1_0", "1.0", "a", "1000000001", "-1000000001", "9" * 100, "1-"):
            for line in (f"run {number}", f"run 0 {number}", f"run {number} 2", f"judge {number}", f"mend {number}",
                         f"bar main {number} p"):
                self.refuse(line)

    def test_numbers_out_of_bounds(self):
        for number in ("10", "-1", "11", "99", "1000000000", "-1000000000"):
            self.refuse(f"judge {number}")
            self.refuse(f"mend {number}")

    def test_lines_that_are_none(self):
        for line in ("", " ", "help", "shows", "sho", "ru", "runs 0", "depths", "pair", "anew", "judged 1", "mended 1", "box a 1",
                     "row main", "still 1", "tick a", "held", "ok", "never", "bars main 0 p", "0", "main", "~", "show show"):
            self.refuse(line)

    def test_no_line_ahead_of_all_else(self):
        # each has a number that is no word, but is no line at all
        for line in ("run 1 x", "run -1 01", "run 99 1000000001", "run 1 ", "run  1"):
            self.refuse(line)

    def test_no_line_ahead_of_too_many(self):
        desk = Desk(WIDE)
        for line in ("judge 1 1", "mend 1 ", "judge 10", "mend 01"):
            with self.assertRaises(NoLine) as caught:
                desk.say(line)
            self.assertEqual(caught.exception.line, line)


class OtherRefusalsTest(unittest.TestCase):

    def test_no_text(self):
        for lines, place in (([], 0), (["row main"], 1), (["row main", "still 10"], 1), (BROKEN + ["open"], len(BROKEN)),
                             (BROKEN[:-1], len(BROKEN) - 1)):
            with self.assertRaises(NoText) as caught:
                Desk(list(lines))
            self.assertEqual(caught.exception.place, place)

    def test_no_bell(self):
        desk = Desk(BROKEN)
        before = state_of(desk)
        for line, word in (("run 1", 1), ("run -1", -1), ("run 2 4 6 8", 8), ("run 0 7 -5", 7), ("run 1000000000", 1000000000),
                           ("run -1000000000 1", -1000000000)):
            with self.subTest(line=line):
                with self.assertRaises(NoBell) as caught:
                    desk.say(line)
                self.assertEqual(caught.exception.word, word)
                self.assertEqual(state_of(desk), before)
        with self.assertRaises(NoBell):
            Desk(BARE).say("run 2")

    def test_too_many(self):
        desk = Desk(WIDE)
        before = state_of(desk)
        self.assertEqual(desk.say("judge 0"), ["held"])
        self.assertEqual(desk.say("mend 0"), [])
        for line in ("judge 1", "mend 1", "judge 9", "mend 9"):
            with self.subTest(line=line):
                with self.assertRaises(TooMany) as caught:
                    desk.say(line)
                self.assertEqual(caught.exception.most, 300)
                self.assertEqual(state_of(desk), before)

    def test_just_so_many(self):
        lines = ["bell p 1", "row main"] + ["still 9"] * 11 + ["row p", "still 2"]
        desk = Desk(lines)
        self.assertEqual(desk.say("judge 1"), ["held"])
        self.assertEqual(desk.say("mend 1"), [])


class DrawnDesksTest(unittest.TestCase):

    def test_drawn_programs(self):
        mended = 0
        for seed, program in enumerate(programs_drawn(range(1000), boxes=4, bells=3, places=3)):
            rng = random.Random(seed)
            desk = Desk(lines_wanted(program))
            for bar in rng.sample(bars_in(program), min(2, len(bars_in(program)))):
                names = program[1][bar[0]][0], program[1][bar[2]][0]
                self.assertEqual(desk.say(f"bar {names[0]} {bar[1]} {names[1]}"), ["ok"])
                program = with_bars(program, [bar])
            self.assertEqual(desk.say("show"), lines_wanted(program))
            words = ringings_drawn(rng, program, rng.randint(0, 12))
            turns, model = walked(program, words)
            broken = sum(len(event[4]) for pile, cells, event in turns if event[0] == "turn")
            self.assertEqual(desk.say(" ".join(["run"] + [str(word) for word in words])), [
                f"turns {len(turns)}", " ".join(["cells"] + [str(cell) for cell in model.cells]), f"broken {broken}"])
            self.assertGreaterEqual(int(desk.say("depth")[0].split(" ")[1]), depth_of(program, words))
            self.judge(desk, program, rng.randint(0, 2))
            mended += self.mend(desk, program, rng.randint(0, 2))
        self.assertGreater(mended, 15)

    def judge(self, desk, program, many):
        if len(prices_of(program, many)) > 300:
            with self.assertRaises(TooMany):
                desk.say(f"judge {many}")
            return
        fewest = fewest_to_break(program, many)
        self.assertEqual(desk.say(f"judge {many}"), ["held" if fewest is None else f"broken {fewest}"])

    def mend(self, desk, program, many):
        if len(prices_of(program, many)) > 300:
            with self.assertRaises(TooMany):
                desk.say(f"mend {many}")
            return 0
        told = desk.say(f"mend {many}")
        if told == ["never"]:
            self.assertIsNotNone(fewest_to_break(with_bars(program, bars_in(program)), many))
            self.assertEqual(desk.say("show"), lines_wanted(program))
            return 0
        names = [row[0] for row in program[1]]
        bars = []
        for line in told:
            word, row, place, bell = line.split(" ")
            self.assertEqual(word, "bar")
            bars.append((names.index(row), int(place), names.index(bell)))
        self.assertEqual(bars, sorted(set(bars)))
        self.assertIsNone(fewest_to_break(with_bars(program, bars), many))
        for bar in bars:
            others = [other for other in bars if other != bar]
            self.assertIsNotNone(fewest_to_break(with_bars(program, others), many))
        self.assertEqual(desk.say("show"), lines_wanted(with_bars(program, bars)))
        self.assertEqual(desk.say(f"mend {many}"), [])
        return 1 if bars else 0


if __name__ == "__main__":
    unittest.main()
