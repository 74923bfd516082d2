"""Promise 4, sentence by sentence, over drawn programs and ringings: what is told of all ringings is what runs do."""

import random
import unittest

from bellnest.anews import anews, loose, loosening
from bellnest.bars import barred, bars_of
from bellnest.depths import deepest
from bellnest.errors import NoNest, TooMany
from bellnest.judging import judged
from bellnest.machine import Machine
from bellnest.mending import mended
from bellnest.pairs import meeting, pairs
from bellnest.reading import read
from bellnest.running import run, served
from bellnest.showing import shown
from bellnest.states import begin, behind, come, may_come

from helper import bits, breaks_one, depth_of, programs_drawn, ringings_drawn, ringings_few

DRAWN = programs_drawn(range(200), boxes=3, bells=3, places=3, shut=0.15)


def broken_in_run(program, ringings):
    return [pair for event in run(program, ringings)[0] if event[0] == "turn" for pair in event[4]]


class WholeTest(unittest.TestCase):

    def test_nests(self):
        for seed, program in enumerate(DRAWN):
            depth, ringings = deepest(program)
            self.assertEqual(depth_of(program, ringings), depth)
            words = ringings_drawn(random.Random(seed), program, 25, 0.4)
            machine = Machine(program)
            for word in words:
                machine.turn(word)
                self.assertLessEqual(len(machine.pile()) - 1, depth)

    def test_deeds_amid_one_another(self):
        for seed, program in enumerate(DRAWN):
            told = pairs(program)
            for pair in told:
                if pair[5] in ("rank", "shut"):
                    with self.assertRaises(NoNest):
                        meeting(program, pair)
                    continue
                x, i, p, j, q, word = pair
                events = run(program, meeting(program, pair))[0]
                self.assertIn((j, q), [event[1:3] for event in events if event[0] == "turn"])
                self.assertIn(("enter", j), events)

    def test_judging(self):
        seen = {}
        for seed, program in enumerate(DRAWN):
            rng = random.Random(seed)
            for many in (0, 1, 2):
                try:
                    ringings, rows = judged(program, many)
                except TooMany:
                    continue
                seen[ringings is None] = seen.get(ringings is None, 0) + 1
                if ringings is not None:
                    self.assertTrue(broken_in_run(program, ringings))
                    self.assertTrue(breaks_one(program, ringings))
                    self.assertLessEqual(bits(ringings), many)
                for time in range(4):
                    words = ringings_few(rng, program, 12, many)
                    if broken_in_run(program, words):
                        self.assertIsNotNone(ringings)
                        self.assertLessEqual(bits(ringings), bits(words))
        self.assertGreater(min(seen.values()), 100)

    def test_the_table_is_closed_under_all_that_can_come(self):
        for program in DRAWN:
            for many in (0, 1):
                try:
                    rows = judged(program, many)[1]
                except TooMany:
                    continue
                prices = dict(rows)
                self.assertEqual(prices[begin(program)], 0)
                for state, price in rows:
                    following = behind(program, state)
                    self.assertTrue(following is None or prices[following] <= price)
                    for bell in may_come(program, state):
                        self.assertTrue(price == many or prices[come(program, state, bell)] <= price + 1)

    def test_mending(self):
        shut = 0
        for seed, program in enumerate(programs_drawn(range(600), boxes=3, bells=3, places=3, shut=0.1)):
            rng = random.Random(seed)
            many = rng.randint(1, 2)
            try:
                told = mended(program, many)
            except TooMany:
                continue
            if told[0] == "never":
                self.assertTrue(broken_in_run(barred(program, bars_of(program)), told[1]))
                continue
            bars = told[1]
            whole = barred(program, bars)
            shut += len(bars)
            for time in range(4):
                words = ringings_few(rng, program, 12, many)
                self.assertEqual(broken_in_run(whole, words), [])
                self.assertFalse(breaks_one(whole, words))
            for bar, words in zip(bars, told[3]):
                less = barred(program, [other for other in bars if other != bar])
                self.assertTrue(broken_in_run(less, words))
                self.assertLessEqual(bits(words), many)
        self.assertGreater(shut, 30)

    def test_anews(self):
        """A turn m + 1 of a sure anew that goes on has what stands in its box; a loose one can be loosened."""
        found = 0
        for seed, program in enumerate(programs_drawn(range(300), boxes=4, bells=3, places=4)):
            boxes, rows = program
            starts = [sum(len(box[1]) for box in boxes[:x]) for x in range(len(boxes))]
            told = {where: loose(program, *where) for where in anews(program)}
            for where, by in told.items():
                if by is not None:
                    events = run(program, loosening(program, *where, by))[0]
                    self.assertIn(by, [event[1:3] for event in events if event[0] == "turn"])
            machine = Machine(program)
            for word in ringings_drawn(random.Random(seed), program, 40, 0.1):
                top, cells = machine.pile()[-1], machine.cells()
                event = machine.turn(word)
                if event[0] != "turn" or told.get(event[1:3], 0) is not None:
                    continue
                kind, x, y, t = rows[event[1]][2][event[2]][0]
                size = len(boxes[y][1])
                if event[3] == size + 1 and machine.pile()[-1][2] == size + 2:
                    self.assertEqual(top[3][1:], cells[starts[y]:starts[y] + size])
                    found += 1
        self.assertGreater(found, 50)

    def test_flags(self):
        for seed, program in enumerate(DRAWN):
            ranks = [row[1] for row in program[1]]
            words = ringings_drawn(random.Random(seed), program, 25, 0.2)
            machine = Machine(program)
            set_flags = {}
            for word in words:
                flags, state = machine.flags(), (machine.pile(), machine.cells())
                for bell in range(1, len(ranks)):
                    if word & ~flags & (1 << bell):
                        set_flags[bell] = set_flags.get(bell, 0) + 1
                ready = [bell for bell in may_come(program, state) if (flags | word) & (1 << bell)]
                event = machine.turn(word)
                self.assertEqual(event[0] == "enter", ready != [])
                if ready:
                    self.assertEqual(event[1], min(ready, key=lambda bell: (-ranks[bell], bell)))
            self.assertEqual(served(run(program, words)[0]), set_flags)

    def test_text(self):
        for program in DRAWN:
            self.assertEqual(read(shown(program)), program)


if __name__ == "__main__":
    unittest.main()
