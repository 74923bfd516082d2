"""Promise 31: bars, and programs with bars."""

import random
import unittest

from bellnest.bars import barred, bars_of

from helper import bars_in, program_drawn, programs_drawn, with_bars

S = ("still", 1)
PLAIN = ((("a", (1, 2)),), (
    ("main", 0, ((S, 0), (("grow", 0, 1), 2 | 8))),
    ("p", 2, ((S, 4), (S, 2))),
    ("q", 5, ((S, 0),)),
    ("r", 5, ((S, 0), (S, 0))),
))
PLAIN_BARS = [(0, 0, 1), (0, 0, 2), (0, 0, 3), (0, 1, 2), (1, 0, 3), (1, 1, 2), (1, 1, 3)]


class BarsTest(unittest.TestCase):

    def test_told(self):
        told = bars_of(PLAIN)
        self.assertEqual(told, PLAIN_BARS)
        self.assertIs(type(told), list)
        for bar in told:
            self.assertEqual([type(part) for part in (bar,) + bar], [tuple, int, int, int])

    def test_none_at_all(self):
        self.assertEqual(bars_of(((), (("main", 0, ((S, 0),)),))), [])
        self.assertEqual(bars_of(((), (("main", 0, ((S, 2), (S, 2))), ("p", 1, ((S, 0),))))), [])

    def test_like_ranks_and_falling_ones(self):
        rows = (("main", 0, ((S, 0),)), ("p", 3, ((S, 0),)), ("q", 3, ((S, 0),)), ("r", 1, ((S, 0),)))
        self.assertEqual(bars_of(((), rows)), [(0, 0, 1), (0, 0, 2), (0, 0, 3), (3, 0, 1), (3, 0, 2)])

    def test_drawn_programs_of_all_sizes(self):
        for bells in range(7):
            for places in (1, 5, 12):
                for seed in range(10):
                    program = program_drawn(seed, bells=bells, places=places, shut=0.4, ranks=9)
                    self.assertEqual(bars_of(program), bars_in(program))
                    self.assertEqual(bars_of(program), sorted(set(bars_of(program))))

    def test_told_lists_are_the_askers_own(self):
        told = bars_of(PLAIN)
        told.reverse()
        told.pop()
        self.assertEqual(bars_of(PLAIN), PLAIN_BARS)

    def test_arguments_by_name(self):
        self.assertEqual(bars_of(program=PLAIN), PLAIN_BARS)
        self.assertEqual(barred(program=PLAIN, bars=[]), PLAIN)


class BarredTest(unittest.TestCase):

    def test_told(self):
        for bars, words in (
            ([], [[0, 10], [4, 2], [0], [0, 0]]),
            ([(0, 0, 1)], [[2, 10], [4, 2], [0], [0, 0]]),
            ([(0, 0, 3)], [[8, 10], [4, 2], [0], [0, 0]]),
            ([(0, 1, 2)], [[0, 14], [4, 2], [0], [0, 0]]),
            ([(1, 1, 3), (0, 0, 2), (1, 1, 2)], [[4, 10], [4, 14], [0], [0, 0]]),
            (PLAIN_BARS, [[14, 14], [12, 14], [0], [0, 0]]),
            (PLAIN_BARS[::-1], [[14, 14], [12, 14], [0], [0, 0]]),
        ):
            handed = list(bars)
            told = barred(PLAIN, handed)
            with self.subTest(bars=bars):
                self.assertEqual([[place[1] for place in row[2]] for row in told[1]], words)
                self.assertEqual(told, with_bars(PLAIN, bars))
                self.assertEqual(handed, bars)
                handed.clear()
                self.assertEqual(told, with_bars(PLAIN, bars))
                self.assertEqual([type(part) for part in (told,) + told + told[1] + told[1][0][2]], [tuple] * 9)

    def test_the_program_that_was_handed_in_stays(self):
        before = with_bars(PLAIN, [])
        barred(PLAIN, PLAIN_BARS)
        self.assertEqual(PLAIN, before)

    def test_drawn_bars(self):
        for seed, program in enumerate(programs_drawn(range(150), bells=5, places=8, shut=0.3, ranks=9)):
            rng = random.Random(seed)
            every = bars_in(program)
            some = rng.sample(every, rng.randint(0, len(every)))
            self.assertEqual(barred(program, some), with_bars(program, some))
            left = [bar for bar in every if bar not in some]
            self.assertEqual(bars_of(barred(program, some)), left)
            self.assertEqual(barred(barred(program, some), left), barred(program, every))
            self.assertEqual(bars_of(barred(program, every)), [])
            self.assertEqual(barred(program, []), program)


if __name__ == "__main__":
    unittest.main()
