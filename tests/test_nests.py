"""Promise 21: ringings that come to stands, and NoNest."""

import random
import unittest

from bellnest.errors import BellError, NoNest
from bellnest.nests import ringings_to

from helper import bells_above, gone_to, programs_drawn, stands_in

# The cells: a has 0; b has 1 and 2; c has 3; d has 4 and 5; t has 6.
A, B, C, D, T = range(5)
BOXES = (("a", (5,)), ("b", (7, 8)), ("c", (1,)), ("d", (-3, 4)), ("t", (0,)))
DEEDS = (
    ("put", A, (9,)), ("put", B, (1, 2)), ("copy", B, D), ("grow", A, 1), ("grow", D, 1), ("tick", T), ("still", 4),
    ("is", A, C, 0), ("most", A, C, 0), ("none", A), ("anew", A, C, T), ("anew", B, D, T),
)
FREE = tuple((deed, 0) for deed in DEEDS)
S = ("still", 2)

# every kind of deed in main and in each of three bells
WIDE = (BOXES, (("main", 0, FREE), ("p", 1, FREE), ("q", 4, FREE), ("r", 9, FREE)))

# bells 1 to 4 with ranks 2, 5, 5, 9; main's places are shut to none, p, q and s, all
NEST = (BOXES, (
    ("main", 0, ((S, 0), (S, 2), (S, 4 | 16), (S, 30))),
    ("p", 2, ((S, 0), (S, 2), (S, 8))),
    ("q", 5, ((S, 16), (S, 0))),
    ("r", 5, ((S, 0),)),
    ("s", 9, ((S, 30), (S, 0))),
))


class NestsTest(unittest.TestCase):

    def come(self, program, stands):
        handed = list(stands)
        words = ringings_to(program, handed)
        with self.subTest(stands=stands):
            self.assertEqual(handed, stands)
            self.assertIs(type(words), list)
            self.assertLessEqual({type(word) for word in words}, {int})
            model, back = gone_to(program, words)
            self.assertEqual([frame[:3] for frame in model.pile], stands)
            self.assertFalse(back)

    def test_main_alone_at_every_place_and_turn(self):
        for program in (WIDE, NEST):
            for stand in stands_in(program, 0):
                self.come(program, [stand])

    def test_the_turns_of_an_anew(self):
        stands = stands_in(WIDE, 0)
        self.assertEqual([stand for stand in stands if stand[1] == 10], [(0, 10, turn) for turn in range(4)])
        self.assertEqual([stand for stand in stands if stand[1] == 11], [(0, 11, turn) for turn in range(6)])

    def test_a_bell_at_every_place_and_turn(self):
        for bell in (1, 2, 3):
            for stand in stands_in(WIDE, bell):
                for base in ((0, 0, 0), (0, 6, 2), (0, 11, 3), (0, 12, 0)):
                    self.come(WIDE, [base, stand])

    def test_a_bell_above_main_at_every_place_and_turn(self):
        for base in stands_in(WIDE, 0):
            for above in ((1, 0, 0), (2, 4, 3), (3, 11, 5)):
                self.come(WIDE, [base, above])

    def test_nests_of_several_bells(self):
        for base in ((0, 0, 0), (0, 10, 2), (0, 12, 0)):
            for place in range(12):
                first = [stand for stand in stands_in(WIDE, 1) if stand[1] == place]
                second = [stand for stand in stands_in(WIDE, 2) if stand[1] == (place + 5) % 12]
                for low in first:
                    for mid in second:
                        self.come(WIDE, [base, low, mid, (3, (place + 7) % 12, 0)])

    def test_a_bell_that_is_not_the_next_one_in_rank(self):
        self.come(WIDE, [(0, 3, 1), (2, 3, 1)])
        self.come(WIDE, [(0, 3, 1), (1, 3, 1), (3, 3, 1)])
        self.come(WIDE, [(0, 3, 1), (3, 11, 5)])

    def test_shut_places(self):
        for stands in (
            [(0, 1, 0), (2, 1, 1)],
            [(0, 1, 1), (3, 0, 1), (4, 0, 1)],
            [(0, 2, 1), (1, 1, 1), (3, 0, 0)],
            [(0, 2, 0), (1, 0, 0)],
            [(0, 4, 0), (1, 1, 1), (2, 1, 0), (4, 0, 0)],
            [(0, 4, 0), (1, 2, 1), (2, 1, 0), (4, 1, 1)],
            [(0, 3, 0)],
        ):
            self.come(NEST, stands)

    def test_an_anew_whose_tally_a_bell_would_change(self):
        boxes = (("x", (0,)), ("y", (1,)), ("t", (3,)))
        ticks = ((("tick", 2), 0), (("tick", 2), 0))
        program = (boxes, (("main", 0, ((("anew", 0, 1, 2), 0), (S, 0))), ("p", 1, ((("anew", 0, 1, 2), 0),) + ticks),
                           ("q", 2, ticks)))
        for base in stands_in(program, 0):
            for low in stands_in(program, 1):
                for high in stands_in(program, 2):
                    self.come(program, [base, low, high])

    def test_drawn_stands(self):
        for seed, program in enumerate(programs_drawn(range(300), boxes=5, bells=5, places=6, ranks=6)):
            rng = random.Random(seed)
            for time in range(5):
                stands = [rng.choice(stands_in(program, 0))]
                while bells_above(program, stands) and rng.random() < 0.9:
                    stands.append(rng.choice(stands_in(program, rng.choice(bells_above(program, stands)))))
                self.come(program, stands)

    def test_told_lists_are_the_askers_own(self):
        stands = [(0, 3, 1), (2, 3, 1)]
        for time in range(3):
            words = ringings_to(WIDE, stands)
            self.come(WIDE, stands)
            words.append(1)
            words[0] = 99
            self.come(WIDE, stands)
        self.come(WIDE, [(0, 0, 0)])

    def test_arguments_by_name(self):
        self.assertIs(type(ringings_to(program=WIDE, stands=[(0, 0, 0)])), list)


class RefusedStandsTest(unittest.TestCase):

    def refuse(self, program, stands, bell):
        handed = list(stands)
        with self.subTest(stands=stands):
            with self.assertRaises(NoNest) as caught:
                ringings_to(program, handed)
            self.assertEqual(caught.exception.bell, bell)
            self.assertIs(type(caught.exception.bell), int)
            self.assertIsInstance(caught.exception, BellError)
            self.assertEqual(handed, stands)

    def test_for_its_rank(self):
        self.refuse(WIDE, [(0, 0, 0), (2, 0, 0), (1, 0, 0)], 1)
        self.refuse(WIDE, [(0, 0, 0), (2, 0, 0), (2, 0, 0)], 2)
        self.refuse(WIDE, [(0, 0, 0), (3, 0, 0), (2, 4, 1)], 2)
        self.refuse(WIDE, [(0, 0, 0), (1, 0, 0), (3, 0, 0), (2, 4, 1)], 2)
        self.refuse(NEST, [(0, 4, 0), (2, 1, 0), (3, 0, 0)], 3)
        self.refuse(NEST, [(0, 4, 0), (3, 0, 0), (2, 0, 0)], 2)

    def test_for_a_shut_place(self):
        self.refuse(NEST, [(0, 1, 0), (1, 0, 0)], 1)
        self.refuse(NEST, [(0, 1, 1), (1, 2, 1)], 1)
        self.refuse(NEST, [(0, 2, 0), (2, 0, 0)], 2)
        for bell in (1, 2, 3, 4):
            self.refuse(NEST, [(0, 3, 0), (bell, 0, 0)], bell)
            self.refuse(NEST, [(0, 3, 1), (bell, 0, 1)], bell)
        self.refuse(NEST, [(0, 4, 0), (1, 2, 0), (3, 0, 0)], 3)
        self.refuse(NEST, [(0, 4, 0), (2, 0, 0), (4, 1, 0)], 4)

    def test_for_a_place_beneath_the_top(self):
        self.refuse(NEST, [(0, 2, 0), (1, 0, 0), (2, 0, 0)], 2)
        self.refuse(NEST, [(0, 2, 0), (1, 0, 0), (3, 0, 0), (4, 0, 0)], 4)
        self.refuse(NEST, [(0, 0, 0), (2, 0, 1), (4, 0, 0)], 4)

    def test_those_behind_the_first_are_not_looked_at(self):
        for behind in ([(4, 0, 0)], [(9, 9, 9)], [(1, 99, 99), (2, -1, 0)], [(0, 0, 0)], [(2, 0, 0), (3, 0, 0)]):
            self.refuse(NEST, [(0, 1, 0), (1, 0, 0)] + behind, 1)
            self.refuse(NEST, [(0, 4, 0), (3, 0, 0), (2, 0, 0)] + behind, 2)

    def test_drawn_stands(self):
        refused = 0
        for seed, program in enumerate(programs_drawn(range(300), bells=5, places=5, shut=0.3, ranks=5)):
            rng = random.Random(seed)
            stands = [rng.choice(stands_in(program, 0))]
            wanted = None
            for time in range(4 if len(program[1]) > 1 else 0):
                bell = rng.randrange(1, len(program[1]))
                if wanted is None and bell not in bells_above(program, stands):
                    wanted = bell
                stands.append(rng.choice(stands_in(program, bell)))
            if wanted is not None:
                refused += 1
                self.refuse(program, stands, wanted)
        self.assertGreater(refused, 100)

    def test_what_was_refused_changes_nothing(self):
        self.refuse(NEST, [(0, 1, 0), (1, 0, 0)], 1)
        model, back = gone_to(NEST, ringings_to(NEST, [(0, 1, 0), (2, 1, 0)]))
        self.assertEqual([frame[:3] for frame in model.pile], [(0, 1, 0), (2, 1, 0)])


if __name__ == "__main__":
    unittest.main()
