"""Promises 8, 13 to 15: frames and piles, which bell may enter, and what the top's next turn does."""

import random
import unittest

from bellnest.frames import entered, may_enter, shut_by, turned, word_at

from helper import Model, may_come_in, programs_drawn, ringings_drawn, turn_of, word_in

# The cells: a has 0; b has 1 and 2; c has 3; d has 4 and 5; t has 6.
A, B, C, D, T = range(5)
BOXES = (("a", (5,)), ("b", (7, 8)), ("c", (1,)), ("d", (-3, 4)), ("t", (0,)))
CELLS = (10, 20, 30, 40, 50, 60, 70)
HUGE = tuple(10 ** 29 * k + 7 for k in range(1, 8))
S = ("still", 2)

# bells 1 to 4 with ranks 2, 5, 5, 9
NEST = (BOXES, (
    ("main", 0, ((S, 0), (S, 2), (S, 4 | 16), (S, 30))),
    ("p", 2, ((S, 0), (S, 2), (S, 8))),
    ("q", 5, ((S, 16), (S, 0))),
    ("r", 5, ((S, 0),)),
    ("s", 9, ((S, 30), (S, 0))),
))


def main(place, turn=0, hand=()):
    return (0, place, turn, hand)


def swapped(cells, changes):
    return tuple(changes.get(cell, number) for cell, number in enumerate(cells))


class WordsTest(unittest.TestCase):

    def test_word_at_each_place(self):
        words = [[word_at(NEST, row, place) for place in range(len(NEST[1][row][2]))] for row in range(5)]
        self.assertEqual(words, [[0, 2, 20, 30], [0, 2, 8], [16, 0], [0], [30, 0]])

    def test_word_at_mains_end(self):
        self.assertEqual(word_at(NEST, 0, 4), 0)
        self.assertEqual(word_at(((), (("main", 0, ((S, 0),)),)), 0, 1), 0)
        shut = ((), (("main", 0, ((S, 2),)), ("p", 1, ((S, 2),))))
        self.assertEqual((word_at(shut, 0, 0), word_at(shut, 0, 1), word_at(shut, 1, 0)), (2, 0, 2))

    def test_shut_by(self):
        for pile, wanted in (
            ((main(0),), 0),
            ((main(1),), 2),
            ((main(2, 1),), 20),
            ((main(4),), 0),
            ((main(1), (2, 0, 1, ())), 18),
            ((main(4), (1, 2, 0, ())), 8),
            ((main(0), (1, 1, 0, ()), (2, 0, 0, ()), (4, 1, 0, ())), 18),
            ((main(2), (1, 2, 0, ()), (2, 1, 0, ())), 28),
            ((main(0), (4, 0, 0, ())), 30),
            ((main(3), (1, 0, 0, ()), (3, 0, 1, ())), 30),
        ):
            with self.subTest(pile=pile):
                self.assertEqual(shut_by(NEST, pile), wanted)
                self.assertIs(type(shut_by(NEST, pile)), int)

    def test_may_enter(self):
        for pile, wanted in (
            ((main(0),), [1, 2, 3, 4]),
            ((main(0, 1),), [1, 2, 3, 4]),
            ((main(1),), [2, 3, 4]),
            ((main(2),), [1, 3]),
            ((main(3),), []),
            ((main(4),), [1, 2, 3, 4]),
            # by rank alone
            ((main(0), (1, 0, 0, ())), [2, 3, 4]),
            ((main(0), (3, 0, 0, ())), [4]),
            ((main(0), (2, 1, 1, ())), [4]),
            ((main(0), (4, 1, 0, ())), []),
            # by the top's word
            ((main(0), (1, 2, 0, ())), [2, 4]),
            ((main(0), (2, 0, 0, ())), []),
            # by a word beneath the top
            ((main(2), (1, 0, 0, ())), [3]),
            ((main(2), (3, 0, 0, ())), []),
            ((main(0), (1, 2, 1, ()), (2, 1, 0, ())), [4]),
            ((main(1), (1, 2, 1, ())), [2, 4]),
        ):
            for bell in (1, 2, 3, 4):
                with self.subTest(pile=pile, bell=bell):
                    self.assertIs(may_enter(NEST, pile, bell), bell in wanted)

    def test_entered(self):
        for pile in ((main(0),), (main(4),), (main(2, 1), (1, 0, 1, ())), (main(0, 1, (10 ** 29,)),)):
            for bell in (2, 4):
                with self.subTest(pile=pile, bell=bell):
                    told = entered(pile, bell)
                    self.assertEqual(told, pile + ((bell, 0, 0, ()),))
                    self.assertIs(type(told), tuple)
                    self.assertIs(type(told[-1]), tuple)

    def test_arguments_by_name(self):
        pile = (main(1),)
        self.assertEqual(word_at(program=NEST, row=1, place=1), 2)
        self.assertEqual(shut_by(program=NEST, pile=pile), 2)
        self.assertIs(may_enter(program=NEST, pile=pile, bell=1), False)
        self.assertEqual(entered(pile=pile, bell=2), (main(1), (2, 0, 0, ())))
        self.assertEqual(turned(program=NEST, pile=pile, cells=CELLS), ((main(1, 1),), CELLS))


# a deed, a turn, the hand ahead of it; what changes in CELLS, the hand and the turn behind it (None: it is done)
TURNS = (
    (("put", A, (9,)), 0, (), {0: 9}, (), None),
    (("put", B, (9, -9)), 0, (), {1: 9}, (), 1),
    (("put", B, (9, -9)), 1, (), {2: -9}, (), None),
    (("copy", A, C), 0, (), {0: 40}, (), None),
    (("copy", D, B), 0, (), {4: 20}, (), 1),
    (("copy", D, B), 1, (), {5: 30}, (), None),
    (("grow", A, 4), 0, (), {}, (10,), 1),
    (("grow", A, 4), 1, (3,), {0: 7}, (), None),
    (("grow", A, 4), 1, (10 ** 30,), {0: 10 ** 30 + 4}, (), None),
    (("grow", B, -1), 0, (), {}, (20,), 1),
    (("grow", B, -1), 1, (5,), {}, (5, 30), 2),
    (("grow", B, -1), 2, (5, 6), {1: 4}, (5, 6), 3),
    (("grow", B, -1), 3, (5, -10 ** 30), {2: -10 ** 30 - 1}, (), None),
    (("tick", T), 0, (), {6: 71}, (), None),
    (("still", 1), 0, (), {}, (), None),
    (("still", 9), 0, (), {}, (), 1),
    (("still", 9), 7, (), {}, (), 8),
    (("still", 9), 8, (), {}, (), None),
    (("is", A, C, 0), 0, (), {}, (), None),
    (("most", D, B, 0), 0, (), {}, (), None),
    (("none", B), 0, (), {}, (), None),
    (("anew", A, C, T), 0, (), {}, (70,), 1),
    (("anew", A, C, T), 1, (1,), {}, (1, 40), 2),
    (("anew", A, C, T), 2, (70, 5), {}, (70, 5), 3),
    (("anew", A, C, T), 2, (71, 5), {}, (), 0),
    (("anew", A, C, T), 3, (1, 5), {0: 5}, (), None),
    (("anew", B, D, T), 0, (), {}, (70,), 1),
    (("anew", B, D, T), 1, (8,), {}, (8, 50), 2),
    (("anew", B, D, T), 2, (8, 9), {}, (8, 9, 60), 3),
    (("anew", B, D, T), 3, (70, 1, 2), {}, (70, 1, 2), 4),
    (("anew", B, D, T), 3, (69, 70, 70), {}, (), 0),
    (("anew", B, D, T), 4, (0, 1, 2), {1: 1}, (0, 1, 2), 5),
    (("anew", B, D, T), 5, (0, 1, 10 ** 30), {2: 10 ** 30}, (), None),
)


class TurnedTest(unittest.TestCase):

    def told(self, program, pile, cells):
        told = turned(program, pile, cells)
        self.assertEqual([type(part) for part in (told,) + told], [tuple] * 3)
        for frame in told[0]:
            self.assertIs(type(frame), tuple)
            self.assertIs(type(frame[3]), tuple)
        return told

    def test_every_kind_of_deed_in_main(self):
        for deed, turn, hand, changes, kept, following in TURNS:
            cells = swapped(CELLS, changes)
            at = main(1, following, kept) if following is not None else main(2)
            with self.subTest(deed=deed, turn=turn, hand=hand):
                program = (BOXES, (("main", 0, ((S, 0), (deed, 0), (S, 0))),))
                self.assertEqual(self.told(program, (main(1, turn, hand),), CELLS), ((at,), cells))
                # the same deed as main's last one
                program = (BOXES, (("main", 0, ((S, 0), (deed, 0))),))
                self.assertEqual(self.told(program, (main(1, turn, hand),), CELLS), ((at,), cells))

    def test_every_kind_of_deed_in_a_bell(self):
        below = (main(0, 1), (1, 0, 1, ()))
        for deed, turn, hand, changes, kept, following in TURNS:
            cells = swapped(CELLS, changes)
            with self.subTest(deed=deed, turn=turn, hand=hand):
                rows = (("main", 0, ((S, 0),)), ("p", 2, ((S, 0),)), ("q", 5, ((deed, 0), (S, 0))))
                at = (2, 0, following, kept) if following is not None else (2, 1, 0, ())
                told = self.told((BOXES, rows), below + ((2, 0, turn, hand),), CELLS)
                self.assertEqual(told, (below + (at,), cells))
                # the same deed as the bell's last one: the bell is taken off behind it
                rows = (("main", 0, ((S, 0),)), ("p", 2, ((S, 0),)), ("q", 5, ((S, 0), (deed, 0))))
                wanted = below + (((2, 1, following, kept),) if following is not None else ())
                told = self.told((BOXES, rows), below + ((2, 1, turn, hand),), CELLS)
                self.assertEqual(told, (wanted, cells))

    def test_cells_of_thirty_figures(self):
        for deed, changes in (
            (("tick", A), {0: HUGE[0] + 1}), (("copy", A, C), {0: HUGE[3]}), (("put", A, (1,)), {0: 1}),
        ):
            program = (BOXES, (("main", 0, ((deed, 0),)),))
            self.assertEqual(self.told(program, (main(0),), HUGE), ((main(1),), swapped(HUGE, changes)))
        grow = (BOXES, (("main", 0, ((("grow", B, 3), 0),)),))
        told = self.told(grow, (main(0),), HUGE)
        self.assertEqual(told, ((main(0, 1, (HUGE[1],)),), HUGE))
        told = self.told(grow, (main(0, 2, (-HUGE[1], 0)),), HUGE)
        self.assertEqual(told, ((main(0, 3, (-HUGE[1], 0)),), swapped(HUGE, {1: 3 - HUGE[1]})))

    def test_mains_end(self):
        self.assertIsNone(turned(NEST, (main(4),), CELLS))
        self.assertIsNone(turned(((), (("main", 0, ((S, 0),)),)), (main(1),), ()))

    def test_a_bell_above_mains_end_goes_on(self):
        self.assertEqual(turned(NEST, (main(4), (3, 0, 0, ())), CELLS), ((main(4), (3, 0, 1, ())), CELLS))
        self.assertEqual(turned(NEST, (main(4), (3, 0, 1, ())), CELLS), ((main(4),), CELLS))

    def test_frames_beneath_stay(self):
        below = (main(2, 1), (1, 2, 1, ()), (3, 0, 1, ()))
        self.assertEqual(turned(NEST, below + ((4, 0, 1, ()),), CELLS), (below + ((4, 1, 0, ()),), CELLS))
        self.assertEqual(turned(NEST, below + ((4, 1, 1, ()),), CELLS), (below, CELLS))
        self.assertEqual(turned(NEST, below, CELLS), (below[:-1], CELLS))

    def test_without_boxes(self):
        program = ((), (("main", 0, ((("still", 1), 0), (S, 0))),))
        self.assertEqual(turned(program, (main(0),), ()), ((main(1),), ()))

    def test_drawn_walks(self):
        for seed, program in enumerate(programs_drawn(range(200))):
            model = Model(program)
            for word in ringings_drawn(random.Random(seed), program, 40):
                pile, cells = model.pile, model.cells
                self.assertEqual(turned(program, pile, cells), turn_of(program, pile, cells))
                for bell in range(1, len(program[1])):
                    self.assertIs(may_enter(program, pile, bell), may_come_in(program, pile, bell))
                word_now = 0
                for frame in pile:
                    self.assertEqual(word_at(program, frame[0], frame[1]), word_in(program, frame[0], frame[1]))
                    word_now |= word_in(program, frame[0], frame[1])
                self.assertEqual(shut_by(program, pile), word_now)
                model.turn(word)


if __name__ == "__main__":
    unittest.main()
