"""Promise 30, and 4 where it speaks of judging."""

import random
import unittest

from bellnest.errors import TooMany
from bellnest.judging import judged

from helper import bits, breaks_one, fewest_to_break, prices_of, programs_drawn, ringings_few

A, C = 0, 1
BOXES = (("a", (0,)), ("c", (0,)))
STILL = ("still", 1)


def program_of(main, *bells):
    """main and bells, all of these deeds, bells of ranks 1, 2, .."""
    rows = [("main", 0, tuple((deed, 0) for deed in main))]
    rows += [("pqrs"[k], k + 1, tuple((deed, 0) for deed in deeds)) for k, deeds in enumerate(bells)]
    return (BOXES, tuple(rows))


TICK = ("tick", A)

# a program, and how few ringings break a promise: None where none do, however many
TOLD = (
    (program_of([STILL]), None),
    (program_of([("is", A, C, 0)]), None),
    (program_of([("is", A, C, 1)]), 0),
    (program_of([STILL, TICK, ("is", A, C, 0)]), 0),
    (program_of([TICK, ("is", A, C, 1), STILL]), None),
    (program_of([("most", A, C, -1)], [STILL]), 0),
    (program_of([("is", A, C, 0)], [("tick", A)]), 1),
    (program_of([STILL, ("is", A, C, 0)], [STILL]), None),
    (program_of([("none", A)], [TICK]), 1),
    (program_of([("none", C)], [TICK]), None),
    (program_of([STILL, ("none", A), STILL], [STILL, TICK]), 1),
    (program_of([STILL], [("is", A, C, 0), TICK]), 2),
    (program_of([STILL], [("most", A, C, 1), TICK]), 3),
    (program_of([STILL], [("most", A, C, 2), TICK]), 4),
    (program_of([STILL], [("most", A, C, 7), TICK]), 9),
    (program_of([STILL], [("most", A, C, 8), TICK]), 10),
    (program_of([("grow", A, 1), ("most", A, C, 3)], [("grow", A, 1)]), 3),
    # the cheaper one of two ways, whichever stands first
    (program_of([("most", A, C, 1)], [TICK], [("put", A, (2,))]), 1),
    (program_of([("most", A, C, 1)], [("put", A, (2,))], [TICK]), 1),
    (program_of([STILL], [("none", A)], [TICK]), 2),
)


class JudgedTest(unittest.TestCase):

    def checked(self, program, many, most=2000):
        """What is told, sentence by sentence; the fewest ringings, None where none are told."""
        told = judged(program, many, most)
        self.assertIs(type(told), tuple)
        ringings, rows = told
        prices = prices_of(program, many)
        self.assertIs(type(rows), list)
        self.assertEqual(dict(rows), prices)
        self.assertEqual(len(rows), len(prices))
        if ringings is None:
            return None
        self.assertIs(type(ringings), list)
        self.assertLessEqual({type(word) for word in ringings}, {int})
        self.assertTrue(breaks_one(program, ringings))
        self.assertLessEqual(len(ringings), len(rows))
        return bits(ringings)

    def test_told(self):
        for program, fewest in TOLD:
            for many in range(10):
                if len(prices_of(program, many)) > 2000:
                    continue
                with self.subTest(program=program, many=many):
                    wanted = fewest if fewest is not None and fewest <= many else None
                    self.assertEqual(fewest_to_break(program, many), wanted)
                    self.assertEqual(self.checked(program, many), wanted)

    def test_drawn_programs(self):
        seen = {}
        for seed, program in enumerate(programs_drawn(range(500), boxes=3, bells=3, places=3, shut=0.3)):
            many = random.Random(seed).choice((0, 1, 2, 2, 3))
            if len(prices_of(program, many)) <= 500:
                wanted = fewest_to_break(program, many)
                self.assertEqual(self.checked(program, many), wanted, program)
                seen[wanted] = seen.get(wanted, 0) + 1
        self.assertLessEqual({None, 0, 1, 2}, set(seen))

    def test_the_fewest_of_all_rows_of_ringings(self):
        """Held against runs of all rows of ringings of few words."""
        for program in programs_drawn(range(80), boxes=2, bells=1, places=2, shut=0.2):
            fewest = judged(program, 2, 2000)[0]
            if len(program[1]) == 1:
                continue
            for row in range(1 << 6):
                words = [row >> turn & 1 and 2 for turn in range(6)]
                if bits(words) <= 2 and breaks_one(program, words):
                    self.assertIsNotNone(fewest)
                    self.assertGreaterEqual(bits(words), bits(fewest))

    def test_no_run_of_so_few_ringings_breaks_one(self):
        held = 0
        for seed, program in enumerate(programs_drawn(range(400), boxes=3, bells=3, places=3, shut=0.3)):
            rng = random.Random(seed)
            many = rng.randint(0, 3)
            if len(prices_of(program, many)) > 500:
                continue
            ringings = judged(program, many, 500)[0]
            for time in range(5):
                words = ringings_few(rng, program, 15, many)
                if breaks_one(program, words):
                    self.assertLessEqual(bits(ringings), bits(words))
            held += ringings is None
        self.assertGreater(held, 100)

    def test_too_many(self):
        for program, fewest in TOLD:
            count = len(prices_of(program, 1))
            self.assertEqual(len(judged(program, 1, count)[1]), count)
            with self.assertRaises(TooMany) as caught:
                judged(program, 1, count - 1)
            self.assertEqual(caught.exception.most, count - 1)

    def test_most_left_out(self):
        nine = tuple((("still", 9), 0) for place in range(11))
        for turns, fits in ((2, True), (3, False)):
            program = ((), (("main", 0, nine), ("p", 1, ((("still", turns), 0),))))
            if fits:
                self.assertEqual(len(judged(program, 1)[1]), 300)
                continue
            with self.assertRaises(TooMany) as caught:
                judged(program, 1)
            self.assertEqual(caught.exception.most, 300)

    def test_told_lists_are_the_askers_own(self):
        program = TOLD[12][0]
        for time in range(3):
            ringings, rows = judged(program, 3)
            self.assertEqual(self.checked(program, 3), 3)
            ringings.clear()
            rows.clear()
            self.assertEqual(self.checked(program, 3), 3)

    def test_arguments_by_name(self):
        self.assertIsNone(judged(program=TOLD[0][0], many=0, most=10)[0])


if __name__ == "__main__":
    unittest.main()
