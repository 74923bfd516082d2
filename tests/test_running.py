"""Promises 2, 17 to 20, and 4 where it speaks of flags: runs, prompt ringings, and what is served."""

import random
import unittest

from bellnest.errors import NoBell
from bellnest.running import prompt, run, served

from helper import Model, events_of, program_drawn, programs_drawn, ringings_drawn, walked

PLAIN = ((("a", (5,)),), (
    ("main", 0, ((("still", 1), 0), (("tick", 0), 2))),
    ("p", 1, ((("grow", 0, 10), 0),)),
    ("q", 1, ((("put", 0, (0,)), 0),)),
))
IDLE = ("idle",)


def turn(row, place, number):
    return ("turn", row, place, number, ())


class RunTest(unittest.TestCase):

    def expect(self, program, ringings, events, cells):
        handed = list(ringings)
        told = run(program, handed)
        with self.subTest(ringings=ringings):
            self.assertEqual(told, (events, cells))
            self.assertEqual([type(part) for part in (told,) + told], [tuple, list, tuple])
            self.assertEqual(handed, ringings)

    def test_no_ringings(self):
        self.expect(PLAIN, [], [turn(0, 0, 0), turn(0, 1, 0)], (6,))
        self.expect(PLAIN, [0], [turn(0, 0, 0), turn(0, 1, 0)], (6,))
        self.expect(PLAIN, [0, 0], [turn(0, 0, 0), turn(0, 1, 0)], (6,))

    def test_the_end_from_the_lists_length_on(self):
        self.expect(PLAIN, [0, 0, 0], [turn(0, 0, 0), turn(0, 1, 0), IDLE], (6,))
        self.expect(PLAIN, [0] * 6, [turn(0, 0, 0), turn(0, 1, 0)] + [IDLE] * 4, (6,))

    def test_ringings_beyond_mains_end(self):
        head = [turn(0, 0, 0), turn(0, 1, 0)]
        entered = [("enter", 1), turn(1, 0, 0), turn(1, 0, 1)]
        self.expect(PLAIN, [0, 0, 2], head + entered, (16,))
        self.expect(PLAIN, [0, 0, 0, 2], head + [IDLE] + entered, (16,))
        self.expect(PLAIN, [0, 0, 0, 0, 2, 0, 0, 0], head + [IDLE] * 2 + entered + [IDLE], (16,))
        self.expect(PLAIN, [0, 0, 2, 0, 0, 0, 4], head + entered + [IDLE, ("enter", 2), turn(2, 0, 0)], (0,))

    def test_a_flag_that_waits_when_the_list_is_at_its_end(self):
        self.expect(PLAIN, [0, 2], [turn(0, 0, 0), turn(0, 1, 0), ("enter", 1), turn(1, 0, 0), turn(1, 0, 1)], (16,))
        self.expect(PLAIN, [6], [("enter", 1), turn(1, 0, 0), turn(1, 0, 1), ("enter", 2), turn(2, 0, 0), turn(0, 0, 0),
                                 turn(0, 1, 0)], (1,))
        self.expect(PLAIN, [2, 2, 4], [("enter", 1), turn(1, 0, 0), turn(1, 0, 1), ("enter", 1), turn(1, 0, 0),
                                       turn(1, 0, 1), ("enter", 2), turn(2, 0, 0), turn(0, 0, 0), turn(0, 1, 0)], (1,))

    def test_without_boxes_and_bells(self):
        program = ((), (("main", 0, ((("still", 2), 0),)),))
        self.expect(program, [], [turn(0, 0, 0), turn(0, 0, 1)], ())
        self.expect(program, [0] * 3, [turn(0, 0, 0), turn(0, 0, 1), IDLE], ())

    def test_drawn_runs(self):
        for seed, program in enumerate(programs_drawn(range(300))):
            rng = random.Random(seed)
            for often in (0.05, 0.3, 0.8):
                ringings = ringings_drawn(rng, program, rng.randint(0, 30), often)
                turns, model = walked(program, ringings)
                self.assertEqual(run(program, ringings), ([event for pile, cells, event in turns], model.cells))

    def test_told_lists_are_the_askers_own(self):
        ringings = [2, 0, 4]
        told = run(PLAIN, ringings)
        wanted = (list(told[0]), told[1])
        told[0].clear()
        ringings.append(1)
        self.assertEqual(run(PLAIN, [2, 0, 4]), wanted)

    def test_arguments_by_name(self):
        events, cells = run(program=PLAIN, ringings=[2])
        self.assertEqual(len(prompt(events=events)), len(events))
        self.assertEqual(served(events=events), {1: 1})


class RefusedRingingsTest(unittest.TestCase):

    def test_the_first_such_number_is_told(self):
        for ringings, word in (
            ([1], 1), ([0, 0, 3], 3), ([8], 8), ([-1], -1), ([2, 4, 6, 16], 16), ([6, 7, -5, 1], 7), ([-5, 7], -5),
            ([0] * 50 + [9, 1], 9), ([1 << 60], 1 << 60), ([2, -2], -2), ([5, 5], 5),
        ):
            handed = list(ringings)
            with self.subTest(ringings=ringings):
                with self.assertRaises(NoBell) as caught:
                    run(PLAIN, handed)
                self.assertEqual(caught.exception.word, word)
                self.assertEqual(handed, ringings)

    def test_without_bells(self):
        program = ((), (("main", 0, ((("still", 2), 0),)),))
        for word in (1, 2, 3, -1, 64):
            with self.assertRaises(NoBell) as caught:
                run(program, [0, word])
            self.assertEqual(caught.exception.word, word)


class PromptTest(unittest.TestCase):

    def test_told(self):
        events = run(PLAIN, [6, 0, 2])[0]
        self.assertEqual(events, [("enter", 1), turn(1, 0, 0), turn(1, 0, 1), ("enter", 1), turn(1, 0, 0), turn(1, 0, 1),
                                  ("enter", 2), turn(2, 0, 0), turn(0, 0, 0), turn(0, 1, 0)])
        self.assertEqual(prompt(events), [2, 0, 0, 2, 0, 0, 4, 0, 0, 0])
        self.assertEqual(served(events), {1: 2, 2: 1})
        self.assertEqual((prompt([]), served([])), ([], {}))
        events = run(PLAIN, [0, 0, 0, 0])[0]
        self.assertEqual((prompt(events), served(events)), ([0, 0, 0, 0], {}))

    def test_each_bell(self):
        rows = tuple((name, 1, ((("still", 1), 0),)) for name in "abcdef")
        program = ((), (("main", 0, ((("still", 1), 0),)),) + rows)
        events = run(program, [126])[0]
        self.assertEqual(prompt(events), [2, 0, 4, 0, 8, 0, 16, 0, 32, 0, 64, 0, 0])
        self.assertEqual(served(events), {bell: 1 for bell in range(1, 7)})

    def test_a_run_of_them_has_the_same_events(self):
        for seed in range(300):
            program = program_drawn(seed)
            rng = random.Random(seed)
            ringings = ringings_drawn(rng, program, rng.randint(0, 30), 0.3)
            events, cells = run(program, ringings)
            handed = list(events)
            words = prompt(handed)
            self.assertEqual(handed, events)
            self.assertEqual(len(words), len(events))
            self.assertEqual(run(program, words), (events, cells))
            self.assertEqual(events_of(program, words), events)
            for word, event in zip(words, events):
                self.assertEqual(word, 1 << event[1] if event[0] == "enter" else 0)

    def test_told_things_are_the_askers_own(self):
        events = run(PLAIN, [2])[0]
        words, counts = prompt(events), served(events)
        self.assertEqual((type(words), type(counts)), (list, dict))
        words.clear()
        counts.clear()
        self.assertEqual((prompt(events), served(events)), ([2, 0, 0, 0, 0], {1: 1}))


class ServedTest(unittest.TestCase):

    def test_each_flag_that_is_set_is_served_once(self):
        for seed, program in enumerate(programs_drawn(range(300))):
            rng = random.Random(seed)
            ringings = ringings_drawn(rng, program, rng.randint(0, 30), 0.3)
            model = Model(program)
            wanted = {}
            for word in ringings:
                for bell in range(1, len(program[1])):
                    # a flag that is set already is not set once more
                    if word & ~model.flags & (1 << bell):
                        wanted[bell] = wanted.get(bell, 0) + 1
                model.turn(word)
            self.assertEqual(served(run(program, ringings)[0]), wanted)


if __name__ == "__main__":
    unittest.main()
