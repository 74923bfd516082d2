"""Promises 22 and 23, and 4 where it speaks of nests: the greatest depth, and the paper that shows it."""

import random
import unittest

from bellnest.depths import deepest, paper

from helper import depth_of, prices_of, program_drawn, programs_drawn, ringings_drawn

S = ("still", 1)


def nest(main, *bells):
    """A program of stills: of main the words of its places, of each bell its rank and the words of its places."""
    rows = [("main", 0, tuple((S, word) for word in main))]
    rows += [("abcdef"[k], rank, tuple((S, word) for word in words)) for k, (rank, words) in enumerate(bells)]
    return ((), tuple(rows))


# a program, and its greatest depth
TOLD = (
    (nest([0]), 0),
    (nest([0] * 12), 0),
    (nest([0], (1, [0])), 1),
    (nest([0], (9, [0] * 12)), 1),
    # like ranks
    (nest([0], (3, [0]), (3, [0])), 1),
    (nest([0], (3, [0]), (3, [0]), (3, [0]), (3, [0]), (3, [0]), (3, [0])), 1),
    (nest([0], (3, [0]), (3, [0]), (4, [0])), 2),
    # rising and falling ones
    (nest([0], (1, [0]), (2, [0])), 2),
    (nest([0], (2, [0]), (1, [0])), 2),
    (nest([0], (1, [0]), (2, [0]), (3, [0]), (4, [0]), (5, [0]), (6, [0])), 6),
    (nest([0], (9, [0]), (7, [0]), (5, [0]), (4, [0]), (3, [0]), (2, [0])), 6),
    (nest([0], (9, [0]), (7, [0]), (7, [0]), (4, [0]), (4, [0]), (2, [0])), 4),
    # main's places may all be shut: its end is not
    (nest([2], (1, [0])), 1),
    (nest([6, 6], (1, [0]), (2, [0])), 2),
    # a bell's places
    (nest([0], (1, [4]), (2, [0])), 1),
    (nest([0], (1, [4, 4, 4]), (2, [0])), 1),
    (nest([0], (1, [4, 0, 4]), (2, [0])), 2),
    (nest([0], (1, [4, 4, 0]), (2, [0])), 2),
    (nest([0], (1, [2]), (2, [6])), 2),
    (nest([0], (1, [8]), (2, [0]), (3, [0])), 2),
    (nest([0], (1, [4]), (2, [0]), (3, [0])), 2),
    (nest([0], (1, [12]), (2, [0]), (3, [0])), 2),
    (nest([0], (1, [12]), (2, [8]), (3, [0])), 1),
    (nest([0], (1, [4, 8]), (2, [0]), (3, [0])), 2),
    (nest([0], (1, [4, 8]), (2, [8]), (3, [0])), 2),
    # the place that is open to one bell is shut to the bell above that one
    (nest([0], (1, [4 | 16, 8]), (2, [0]), (3, [0]), (4, [0])), 3),
    (nest([0], (1, [4, 8, 16]), (2, [0]), (3, [0]), (4, [0])), 3),
    (nest([0], (1, [16]), (2, [16]), (3, [16]), (4, [0])), 3),
    (nest([0], (1, [28]), (2, [24]), (3, [16]), (4, [0])), 1),
)


class DeepestTest(unittest.TestCase):

    def reached(self, program):
        """The depth that is told; the ringings told come to it."""
        told = deepest(program)
        self.assertEqual([type(part) for part in (told,) + told], [tuple, int, list])
        self.assertEqual(depth_of(program, told[1]), told[0])
        for word in told[1]:
            self.assertIs(type(word), int)
            self.assertTrue(word % 2 == 0 and 0 <= word < 1 << len(program[1]))
        return told[0]

    def test_told(self):
        for program, depth in TOLD:
            with self.subTest(program=program):
                self.assertEqual(self.reached(program), depth)

    def test_no_bells(self):
        for seed in range(20):
            self.assertEqual(self.reached(program_drawn(seed, bells=0)), 0)

    def test_held_against_a_search(self):
        seen = set()
        for program in programs_drawn(range(250), boxes=2, bells=3, places=2, shut=0.4):
            found = max(len(pile) - 1 for pile, cells in prices_of(program, len(program[1]) - 1))
            self.assertEqual(self.reached(program), found, program)
            seen.add(found)
        self.assertEqual(seen, {0, 1, 2, 3})

    def test_held_against_a_search_of_stills(self):
        for seed in range(300):
            rng = random.Random(seed)
            count = rng.randint(1, 4)

            def words():
                return [sum(1 << bell for bell in range(1, count + 1) if rng.random() < 0.5)
                        for place in range(rng.randint(1, 3))]

            program = nest(words(), *[(rng.randint(1, 5), words()) for bell in range(count)])
            found = max(len(pile) - 1 for pile, cells in prices_of(program, count))
            self.assertEqual(self.reached(program), found, program)

    def test_no_drawn_run_goes_deeper(self):
        for seed, program in enumerate(programs_drawn(range(150), bells=6, places=6, shut=0.3, ranks=9)):
            depth = self.reached(program)
            rng = random.Random(seed)
            for often in (0.1, 0.3):
                self.assertLessEqual(depth_of(program, ringings_drawn(rng, program, 40, often)), depth)

    def test_told_lists_are_the_askers_own(self):
        program = TOLD[9][0]
        for time in range(3):
            told = deepest(program)[1]
            told.clear()
            told.append(1)
            self.assertEqual(self.reached(program), 6)

    def test_arguments_by_name(self):
        self.assertEqual(deepest(program=TOLD[0][0])[0], 0)
        self.assertIn((0, 0, 0), paper(program=TOLD[0][0]))


class PaperTest(unittest.TestCase):

    def shows(self, program, depth):
        """The paper, sentence by sentence."""
        rows = program[1]
        told = paper(program)
        self.assertIs(type(told), list)
        for entry in told:
            self.assertEqual([type(part) for part in (entry,) + entry], [tuple, int, int, int])
            self.assertGreaterEqual(entry[2], 0)
        depths = {(row, word): found for row, word, found in told}
        self.assertEqual(len(depths), len(told))
        self.assertEqual(depths[(0, 0)], depth)
        for row, word, found in told:
            stands = [place[1] for place in rows[row][2]] + ([0] if row == 0 else [])
            for stand in stands:
                for bell in range(1, len(rows)):
                    if rows[bell][1] > rows[row][1] and not (word | stand) & (1 << bell):
                        self.assertIn((bell, word | stand), depths)
                        self.assertLess(depths[(bell, word | stand)], found)

    def test_told(self):
        for program, depth in TOLD:
            with self.subTest(program=program):
                self.shows(program, depth)

    def test_programs_of_all_sizes(self):
        for bells in range(7):
            for places in (1, 3, 7, 12):
                for shut in (0, 0.1, 0.5, 0.9):
                    for seed in range(4):
                        program = program_drawn(seed, bells=bells, places=places, shut=shut, ranks=9)
                        self.shows(program, deepest(program)[0])

    def test_the_greatest_programs(self):
        for seed in range(6):
            rng = random.Random(seed)
            ranks = [(1, 2, 3, 4, 5, 6), (9, 8, 7, 6, 5, 4), (1, 1, 2, 2, 3, 3), (1, 3, 2, 5, 4, 6)][seed % 4]
            bells = [(rank, [rng.randrange(0, 128, 2) for place in range(12)]) for rank in ranks]
            program = nest([rng.randrange(0, 128, 2) for place in range(12)], *bells)
            self.shows(program, deepest(program)[0])
        free = nest([0] * 12, *[(rank, [1 << rank] * 12) for rank in (1, 2, 3, 4, 5, 6)])
        self.assertEqual(deepest(free)[0], 6)
        self.shows(free, 6)

    def test_told_lists_are_the_askers_own(self):
        program = TOLD[9][0]
        told = paper(program)
        told.clear()
        self.shows(program, 6)


if __name__ == "__main__":
    unittest.main()
