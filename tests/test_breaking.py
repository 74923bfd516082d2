"""Promise 16: which promises the top's next turn breaks."""

import random
import unittest

from bellnest.frames import broken_by

from helper import Model, broken_in, programs_drawn, ringings_drawn

# The cells: a has 0; b has 1 and 2; c has 3; d has 4 and 5; t has 6.
A, B, C, D, T = range(5)
BOXES = (("a", (5,)), ("b", (7, 8)), ("c", (1,)), ("d", (-3, 4)), ("t", (0,)))
CELLS = (10, 20, 30, 40, 50, 60, 70)
BIG = 10 ** 29
S = ("still", 3)


def row(name, rank, *deeds):
    return (name, rank, tuple((deed, 0) for deed in deeds))


def program_of(*rows):
    """main and bells of ranks 1, 2, .. with these deeds."""
    return (BOXES, tuple(row("main" if k == 0 else "pqrs"[k - 1], k, *deeds) for k, deeds in enumerate(rows)))


class ComparingTest(unittest.TestCase):

    def asked(self, deed, cells, wanted):
        """The deed in main alone, and in a bell above main and another bell."""
        alone = program_of([S, deed, S])
        nested = program_of([S], [S, S], [S, S, deed])
        with self.subTest(deed=deed, cells=cells):
            self.assertEqual(broken_by(alone, ((0, 1, 0, ()),), cells), ((0, 1),) if wanted else ())
            pile = ((0, 0, 1, ()), (1, 1, 2, ()), (2, 2, 0, ()))
            self.assertEqual(broken_by(nested, pile, cells), ((2, 2),) if wanted else ())

    def test_is_kept_and_broken(self):
        for base in (0, BIG, -BIG):
            cells = (base + 1, 0, 0, base, 0, 0, 0)
            self.asked(("is", A, C, 1), cells, False)
            self.asked(("is", A, C, 0), cells, True)
            self.asked(("is", A, C, 2), cells, True)
            self.asked(("is", C, A, -1), cells, False)
        self.asked(("is", B, D, -30), CELLS, False)
        self.asked(("is", B, D, -30), (10, 20, 31, 40, 50, 60, 70), True)
        self.asked(("is", B, D, -30), (10, 21, 30, 40, 50, 60, 70), True)
        self.asked(("is", B, B, 0), CELLS, False)
        self.asked(("is", B, B, 1), CELLS, True)

    def test_most_kept_and_broken(self):
        for base in (0, BIG, -BIG):
            cells = (base + 1, 0, 0, base, 0, 0, 0)
            self.asked(("most", A, C, 1), cells, False)
            self.asked(("most", A, C, 2), cells, False)
            self.asked(("most", A, C, 0), cells, True)
        self.asked(("most", B, D, -30), CELLS, False)
        self.asked(("most", B, D, -30), (10, 20, 31, 40, 50, 60, 70), True)
        self.asked(("most", B, D, -30), (10, 21, 29, 40, 50, 60, 70), True)
        self.asked(("most", D, D, -1), CELLS, True)

    def test_other_deeds_break_nothing_alone(self):
        for deed, hands in (
            (("put", A, (9,)), [()]), (("copy", A, C), [()]), (("grow", A, 1), [(), (4,)]), (("tick", A), [()]),
            (("still", 1), [()]), (("none", A), [()]), (("none", B), [()]),
            (("anew", A, C, T), [(), (1,), (1, 2), (1, 2)]),
        ):
            program = program_of([deed, ("none", A)], [deed])
            for turn, hand in enumerate(hands):
                with self.subTest(deed=deed, turn=turn):
                    self.assertEqual(broken_by(program, ((0, 0, turn, hand),), CELLS), ())

    def test_mains_end(self):
        program = program_of([("is", A, C, 0)])
        self.assertEqual(broken_by(program, ((0, 1, 0, ()),), CELLS), ())
        self.assertEqual(broken_by(program, ((0, 0, 0, ()),), CELLS), ((0, 0),))

    def test_only_the_tops_turn_is_asked(self):
        program = program_of([("is", A, C, 0)], [("still", 1)])
        self.assertEqual(broken_by(program, ((0, 0, 0, ()), (1, 0, 0, ())), CELLS), ())


# of each deed and turn, with the hand ahead of it: the boxes that it touches
TOUCHES = (
    (("put", A, (9,)), 0, (), [A]),
    (("put", B, (9, 9)), 0, (), [B]),
    (("put", B, (9, 9)), 1, (), [B]),
    (("copy", A, C), 0, (), [A, C]),
    (("copy", B, D), 0, (), [B, D]),
    (("copy", B, D), 1, (), [B, D]),
    (("grow", A, 1), 0, (), [A]),
    (("grow", A, 1), 1, (2,), [A]),
    (("grow", B, 1), 0, (), [B]),
    (("grow", B, 1), 1, (2,), [B]),
    (("grow", B, 1), 2, (2, 3), [B]),
    (("grow", B, 1), 3, (2, 3), [B]),
    (("tick", T), 0, (), [T]),
    (("still", 2), 0, (), []),
    (("still", 2), 1, (), []),
    (("is", A, A, 0), 0, (), [A]),
    (("is", A, C, -30), 0, (), [A, C]),
    (("is", B, D, -30), 0, (), [B, D]),
    (("most", D, B, 30), 0, (), [B, D]),
    (("most", C, C, 0), 0, (), [C]),
    (("none", A), 0, (), []),
    (("none", D), 0, (), []),
    (("anew", A, C, T), 0, (), [T]),
    (("anew", A, C, T), 1, (70,), [C]),
    (("anew", A, C, T), 2, (70, 5), [T]),
    (("anew", A, C, T), 3, (70, 5), [A]),
    (("anew", B, D, A), 0, (), [A]),
    (("anew", B, D, A), 1, (10,), [D]),
    (("anew", B, D, A), 2, (10, 5), [D]),
    (("anew", B, D, A), 3, (10, 5, 6), [A]),
    (("anew", B, D, A), 3, (11, 5, 6), [A]),
    (("anew", B, D, A), 4, (10, 5, 6), [B]),
    (("anew", B, D, A), 5, (10, 5, 6), [B]),
)


class NonesTest(unittest.TestCase):

    def test_a_none_of_a_frame_beneath_at_its_place(self):
        for deed, turn, hand, boxes in TOUCHES:
            for x in range(5):
                program = program_of([S, ("none", x), S], [S, deed])
                pile = ((0, 1, 0, ()), (1, 1, turn, hand))
                with self.subTest(deed=deed, turn=turn, x=x):
                    told = broken_by(program, pile, CELLS)
                    self.assertEqual(told, ((0, 1),) if x in boxes else ())
                    self.assertIs(type(told), tuple)

    def test_within_the_deed_right_ahead(self):
        for deed, turn, hand, boxes in TOUCHES:
            for x in range(5):
                program = program_of([("still", 1), S, ("none", x), S], [S, deed])
                for place, at, wanted in (
                    (0, 0, False), (1, 0, False), (1, 1, True), (1, 2, True), (2, 0, True), (3, 0, False), (3, 1, False),
                    (4, 0, False),
                ):
                    pile = ((0, place, at, ()), (1, 1, turn, hand))
                    with self.subTest(deed=deed, turn=turn, x=x, place=place, at=at):
                        told = broken_by(program, pile, CELLS)
                        self.assertEqual(told, ((0, 2),) if wanted and x in boxes else ())

    def test_within_each_kind_of_deed_right_ahead(self):
        for deed, hands in (
            (("put", B, (1, 2)), [(), ()]),
            (("copy", B, D), [(), ()]),
            (("grow", B, 1), [(), (1,), (1, 2), (1, 2)]),
            (("still", 9), [()] * 9),
            (("anew", B, D, T), [(), (1,), (1, 2), (1, 2, 3), (1, 2, 3), (1, 2, 3)]),
            (("tick", T), [()]),
            (("is", A, A, 5), [()]),
            (("none", C), [()]),
        ):
            program = program_of([deed, ("none", A)], [("tick", A)])
            for turn, hand in enumerate(hands):
                with self.subTest(deed=deed, turn=turn):
                    told = broken_by(program, ((0, 0, turn, hand), (1, 0, 0, ())), CELLS)
                    self.assertEqual(told, ((0, 1),) if turn > 0 else ())

    def test_a_none_as_the_last_place_and_as_the_first(self):
        program = program_of([("none", A), S, ("none", A)], [("tick", A)])
        for place, at, wanted in ((0, 0, ((0, 0),)), (1, 0, ()), (1, 1, ((0, 2),)), (2, 0, ((0, 2),)), (3, 0, ())):
            with self.subTest(place=place, at=at):
                self.assertEqual(broken_by(program, ((0, place, at, ()), (1, 0, 0, ())), CELLS), wanted)

    def test_nones_side_by_side(self):
        program = program_of([S, ("none", A), ("none", C), ("none", A)], [("tick", A), ("tick", C), ("copy", A, C)])
        for place, at, deed, wanted in (
            (0, 1, 0, ((0, 1),)), (0, 1, 1, ()), (1, 0, 0, ((0, 1),)), (1, 0, 1, ()), (1, 0, 2, ((0, 1),)),
            (2, 0, 0, ()), (2, 0, 1, ((0, 2),)), (2, 0, 2, ((0, 2),)), (3, 0, 0, ((0, 3),)), (3, 0, 1, ()),
        ):
            with self.subTest(place=place, at=at, deed=deed):
                self.assertEqual(broken_by(program, ((0, place, at, ()), (1, deed, 0, ())), CELLS), wanted)

    def test_the_tops_own_none_is_not_asked(self):
        program = program_of([S, S], [("grow", A, 1), ("none", A), ("tick", A)])
        for frame in ((1, 0, 0, ()), (1, 0, 1, (3,)), (1, 1, 0, ()), (1, 2, 0, ())):
            self.assertEqual(broken_by(program, ((0, 0, 1, ()), frame), CELLS), ())

    def test_several_at_once_from_main_up(self):
        nones = [S, ("none", A)]
        program = program_of(nones, [("still", 1)] + nones, nones, [("tick", A), ("is", A, A, 1), ("is", C, C, 1)])
        for first, second, third, deed, wanted in (
            ((1, 0), (2, 0), (1, 0), 0, ((0, 1), (1, 2), (2, 1))),
            ((1, 0), (2, 0), (1, 0), 1, ((0, 1), (1, 2), (2, 1), (3, 1))),
            ((1, 0), (2, 0), (1, 0), 2, ((3, 2),)),
            ((0, 1), (1, 2), (0, 1), 0, ((0, 1), (1, 2), (2, 1))),
            ((0, 0), (1, 2), (0, 0), 0, ((1, 2),)),
            ((0, 2), (1, 0), (0, 2), 1, ((0, 1), (2, 1), (3, 1))),
            ((2, 0), (0, 0), (0, 0), 1, ((3, 1),)),
            ((2, 0), (2, 0), (0, 0), 0, ((1, 2),)),
        ):
            pile = ((0,) + first + ((),), (1,) + second + ((),), (2,) + third + ((),), (3, deed, 0, ()))
            with self.subTest(pile=pile):
                self.assertEqual(broken_by(program, pile, CELLS), wanted)

    def test_nones_of_different_boxes(self):
        program = program_of([("none", A)], [("none", C)], [("none", B)], [("copy", A, C), ("put", B, (1, 1))])
        pile = ((0, 0, 0, ()), (1, 0, 0, ()), (2, 0, 0, ()))
        self.assertEqual(broken_by(program, pile + ((3, 0, 0, ()),), CELLS), ((0, 0), (1, 0)))
        self.assertEqual(broken_by(program, pile + ((3, 1, 1, ()),), CELLS), ((2, 0),))
        self.assertEqual(broken_by(program, pile, CELLS), ())

    def test_a_none_that_is_shut_to_the_bell_counts_all_the_same(self):
        program = (BOXES, (("main", 0, ((("none", A), 2),)), ("p", 1, ((("tick", A), 0),))))
        self.assertEqual(broken_by(program, ((0, 0, 0, ()), (1, 0, 0, ())), CELLS), ((0, 0),))

    def test_drawn_walks(self):
        hit = 0
        for seed, program in enumerate(programs_drawn(range(400), boxes=3, shut=0.05)):
            model = Model(program)
            for word in ringings_drawn(random.Random(seed), program, 40):
                wanted = broken_in(program, model.pile, model.cells)
                self.assertEqual(broken_by(program, model.pile, model.cells), wanted)
                hit += len(wanted)
                model.turn(word)
        self.assertGreater(hit, 300)

    def test_arguments_by_name(self):
        program = program_of([("is", A, C, 0)])
        self.assertEqual(broken_by(program=program, pile=((0, 0, 0, ()),), cells=CELLS), ((0, 0),))


if __name__ == "__main__":
    unittest.main()
