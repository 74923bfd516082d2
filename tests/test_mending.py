"""Promise 32, and 4 where it speaks of shut places."""

import random
import unittest

from bellnest.errors import TooMany
from bellnest.mending import mended

from helper import (
    bars_in, bits, breaks_one, fewest_to_break, prices_of, program_drawn, programs_drawn, ringings_few, with_bars,
)

A, C = 0, 1
BOXES = (("a", (0,)), ("c", (0,)))
STILL = ("still", 1)
TICK = ("tick", A)


def program_of(main, *bells):
    """main and bells, all of these deeds, bells of ranks 1, 2, .."""
    rows = [("main", 0, tuple((deed, 0) for deed in main))]
    rows += [("pqrs"[k], k + 1, tuple((deed, 0) for deed in deeds)) for k, deeds in enumerate(bells)]
    return (BOXES, tuple(rows))


class MendedTest(unittest.TestCase):

    def rung(self, program, many, ringings):
        """Ringings as judging the program tells them."""
        self.assertIs(type(ringings), list)
        self.assertLessEqual({type(word) for word in ringings}, {int})
        self.assertTrue(breaks_one(program, ringings))
        self.assertEqual(bits(ringings), fewest_to_break(program, many))
        self.assertLessEqual(len(ringings), len(prices_of(program, many)))

    def checked(self, program, many, most=2000):
        """What is told, sentence by sentence: the bars, or None where it is never mended."""
        told = mended(program, many, most)
        self.assertIs(type(told), tuple)
        if told[0] == "never":
            self.assertEqual(len(told), 2)
            self.rung(with_bars(program, bars_in(program)), many, told[1])
            return None
        word, bars, rows, ringings = told
        self.assertEqual(word, "shut")
        self.assertEqual([type(part) for part in told[1:]], [list] * 3)
        self.assertEqual(bars, sorted(set(bars)))
        self.assertLessEqual(set(bars), set(bars_in(program)))
        whole = with_bars(program, bars)
        self.assertIsNone(fewest_to_break(whole, many))
        self.assertEqual(dict(rows), prices_of(whole, many))
        self.assertEqual(len(rows), len(prices_of(whole, many)))
        self.assertEqual(len(ringings), len(bars))
        for bar, words in zip(bars, ringings):
            self.rung(with_bars(program, [other for other in bars if other != bar]), many, words)
        return bars

    def test_nothing_to_mend(self):
        for program in (
            program_of([STILL]), program_of([STILL], [TICK]), program_of([("is", A, C, 0)], [STILL], [("none", A)]),
            program_of([("none", C)], [TICK]),
        ):
            for many in (0, 1, 3):
                self.assertEqual(self.checked(program, many), [])
        # with fewer ringings than it takes
        program = program_of([STILL], [("most", A, C, 1), TICK])
        self.assertEqual(self.checked(program, 2), [])

    def test_one_bar(self):
        self.assertEqual(self.checked(program_of([("none", A)], [TICK]), 1), [(0, 0, 1)])
        self.assertEqual(self.checked(program_of([("none", A)], [TICK]), 0), [])
        self.assertEqual(self.checked(program_of([STILL, ("none", A)], [TICK]), 1), [(0, 1, 1)])
        # the still of two turns stands right ahead of the none
        self.assertEqual(self.checked(program_of([("still", 2), ("none", A)], [TICK]), 1), [(0, 0, 1), (0, 1, 1)])

    def test_bars_of_bells(self):
        program = program_of([STILL], [STILL, ("none", A), STILL], [TICK])
        self.assertEqual(self.checked(program, 1), [])
        self.assertEqual(self.checked(program, 2), [(1, 1, 2)])

    def test_several_bells(self):
        self.assertEqual(self.checked(program_of([("none", A)], [TICK], [TICK], [STILL]), 1), [(0, 0, 1), (0, 0, 2)])
        # p itself touches nothing, but q above p does
        program = program_of([("none", A)], [STILL], [TICK])
        self.assertEqual(self.checked(program, 1), [(0, 0, 2)])

    def test_either_of_two_ways(self):
        # q breaks main's none through p or alone
        program = (BOXES, (
            ("main", 0, ((("none", A), 0),)),
            ("p", 1, ((STILL, 4),)),
            ("q", 2, ((TICK, 0),)),
        ))
        self.assertEqual(self.checked(program, 2), [(0, 0, 2)])

    def test_some_are_shut_already(self):
        rows = (("main", 0, ((("none", A), 2),)), ("p", 1, ((TICK, 0),)), ("q", 2, ((TICK, 0),)))
        self.assertEqual(self.checked((BOXES, rows), 2), [(0, 0, 2)])

    def test_never(self):
        # main breaks it alone, or a bell does at main's end, which is never shut
        for program, many in (
            (program_of([("is", A, C, 1)]), 0),
            (program_of([("is", A, C, 1)], [STILL]), 3),
            (program_of([STILL], [("is", A, C, 1)]), 1),
            (program_of([STILL], [("is", A, C, 0), TICK]), 2),
        ):
            self.assertIsNone(self.checked(program, many))
        self.assertEqual(self.checked(program_of([STILL], [("is", A, C, 1)]), 0), [])

    def test_every_number_of_ringings(self):
        program = program_of([("most", A, C, 2), STILL], [TICK])
        for many in range(10):
            self.assertEqual(self.checked(program, many), [] if many < 3 else [(0, 0, 1)])

    def test_drawn_programs(self):
        lengths = {}
        for seed, program in enumerate(programs_drawn(range(2500), boxes=3, bells=3, places=3, shut=0.1)):
            many = random.Random(seed).choice((1, 1, 2))
            # what main breaks alone is never mended; a few of these are enough
            if fewest_to_break(program, 0) is not None and seed % 20:
                continue
            if len(prices_of(program, many)) <= 250:
                bars = self.checked(program, many)
                length = None if bars is None else len(bars)
                lengths[length] = lengths.get(length, 0) + 1
        self.assertLessEqual({None, 0, 1, 2, 3}, set(lengths))

    def test_no_run_of_so_few_ringings_breaks_one(self):
        for seed, program in enumerate(programs_drawn(range(600), boxes=3, bells=3, places=3, shut=0.1)):
            rng = random.Random(seed)
            if fewest_to_break(program, 0) is not None or len(prices_of(program, 2)) > 250:
                continue
            told = mended(program, 2)
            if told[0] == "shut":
                whole = with_bars(program, told[1])
                for time in range(4):
                    self.assertFalse(breaks_one(whole, ringings_few(rng, whole, 15, 2)))

    def test_many_bars(self):
        quiet = [("none", A), ("none", C)] * 3
        program = program_of(quiet, [TICK], [("tick", C)])
        wanted = [(0, place, 1 if place % 2 == 0 else 2) for place in range(6)]
        self.assertEqual(self.checked(program, 1), wanted)
        self.assertEqual(self.checked(program, 2), wanted)

    def test_told_lists_are_the_askers_own(self):
        program = program_of([("none", A)], [TICK])
        for time in range(2):
            told = mended(program, 1)
            for part in told[1:]:
                part.clear()
            self.assertEqual(self.checked(program, 1), [(0, 0, 1)])
        never = program_of([STILL], [("is", A, C, 1)])
        mended(never, 1)[1].clear()
        self.assertIsNone(self.checked(never, 1))

    def test_arguments_by_name(self):
        self.assertEqual(mended(program=program_of([STILL]), many=0, most=10)[:2], ("shut", []))


class TooManyTest(unittest.TestCase):

    def test_just_where_the_table_of_the_program_is_refused(self):
        programs = [program_of([("none", A)], [TICK]), program_of([STILL], [("is", A, C, 1)]), program_of([STILL], [STILL])]
        programs += [program_drawn(seed, bells=2, places=2) for seed in range(40)]
        for program in programs:
            count = len(prices_of(program, 1))
            with self.subTest(program=program):
                self.assertIn(mended(program, 1, count)[0], ("shut", "never"))
                for most in sorted({count - 1, 1}):
                    with self.assertRaises(TooMany) as caught:
                        mended(program, 1, most)
                    self.assertEqual(caught.exception.most, most)

    def test_most_left_out(self):
        nine = tuple((("still", 9), 0) for place in range(11))
        program = ((), (("main", 0, nine), ("p", 1, ((("still", 2), 0),))))
        self.assertEqual(len(mended(program, 1)[2]), 300)
        program = ((), (("main", 0, nine), ("p", 1, ((("still", 3), 0),))))
        with self.assertRaises(TooMany) as caught:
            mended(program, 1)
        self.assertEqual(caught.exception.most, 300)


if __name__ == "__main__":
    unittest.main()
