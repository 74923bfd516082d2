"""Promises 6 and 7: what each turn of each kind of deed leaves in cells and hand, and which turn comes next."""

import unittest

from bellnest.deeds import deed_of

# The cells: a has 0; b has 1 and 2; c has 3; d has 4 and 5; t has 6.
A, B, C, D, T = range(5)
BOXES = (("a", (5,)), ("b", (7, 8)), ("c", (1,)), ("d", (-3, 4)), ("t", (0,)))

HIGH = 1000000000
CELLS = (10, 20, 30, 40, 50, 60, 70)
HUGE = tuple(10 ** 29 * k + 7 for k in range(1, 8))


def swapped(cells, changes):
    return tuple(changes.get(cell, number) for cell, number in enumerate(cells))


def walked(deed, cells):
    """All that after tells of a deed from its begin until it is done."""
    made = deed_of(BOXES, deed)
    told = [(cells, (), 0)]
    while told[-1][2] != made.turns():
        told.append(made.after(told[-1][2], told[-1][0], told[-1][1]))
    return told[1:]


class AfterTest(unittest.TestCase):

    def expect(self, deed, cells, turns):
        """turns: of each turn the cells that have changed until then, the hand, the next turn."""
        wanted = [(swapped(cells, changes), hand, behind) for changes, hand, behind in turns]
        told = walked(deed, cells)
        self.assertEqual(told, wanted)
        for tupled in told:
            self.assertEqual([type(part) for part in tupled], [tuple, tuple, int])
            self.assertIs(type(tupled), tuple)

    def test_put(self):
        self.expect(("put", A, (9,)), CELLS, [({0: 9}, (), 1)])
        self.expect(("put", T, (-HIGH,)), CELLS, [({6: -HIGH}, (), 1)])
        self.expect(("put", B, (9, HIGH)), CELLS, [({1: 9}, (), 1), ({1: 9, 2: HIGH}, (), 2)])
        self.expect(("put", D, (0, 0)), HUGE, [({4: 0}, (), 1), ({4: 0, 5: 0}, (), 2)])

    def test_copy(self):
        self.expect(("copy", A, C), CELLS, [({0: 40}, (), 1)])
        self.expect(("copy", C, A), HUGE, [({3: HUGE[0]}, (), 1)])
        self.expect(("copy", B, D), CELLS, [({1: 50}, (), 1), ({1: 50, 2: 60}, (), 2)])
        self.expect(("copy", D, B), HUGE, [({4: HUGE[1]}, (), 1), ({4: HUGE[1], 5: HUGE[2]}, (), 2)])

    def test_grow(self):
        self.expect(("grow", A, 4), CELLS, [({}, (10,), 1), ({0: 14}, (), 2)])
        self.expect(("grow", C, 0), CELLS, [({}, (40,), 1), ({}, (), 2)])
        self.expect(("grow", B, -3), CELLS, [
            ({}, (20,), 1),
            ({}, (20, 30), 2),
            ({1: 17}, (20, 30), 3),
            ({1: 17, 2: 27}, (), 4),
        ])
        self.expect(("grow", D, HIGH), HUGE, [
            ({}, (HUGE[4],), 1),
            ({}, (HUGE[4], HUGE[5]), 2),
            ({4: HUGE[4] + HIGH}, (HUGE[4], HUGE[5]), 3),
            ({4: HUGE[4] + HIGH, 5: HUGE[5] + HIGH}, (), 4),
        ])

    def test_tick(self):
        self.expect(("tick", A), CELLS, [({0: 11}, (), 1)])
        self.expect(("tick", T), HUGE, [({6: HUGE[6] + 1}, (), 1)])
        self.expect(("tick", C), (0, 0, 0, -1, 0, 0, 0), [({3: 0}, (), 1)])

    def test_still(self):
        self.expect(("still", 1), CELLS, [({}, (), 1)])
        self.expect(("still", 9), HUGE, [({}, (), k) for k in range(1, 10)])
        self.assertEqual(deed_of((), ("still", 2)).after(0, (), ()), ((), (), 1))

    def test_is_and_most_go_on_held_or_broken(self):
        for kind in ("is", "most"):
            for x, y in ((A, C), (C, A), (A, A), (B, D), (D, B), (B, B)):
                for n in (-HIGH, 0, 10, 30, HIGH):
                    with self.subTest(kind=kind, x=x, y=y, n=n):
                        self.expect((kind, x, y, n), CELLS, [({}, (), 1)])
                        self.expect((kind, x, y, n), HUGE, [({}, (), 1)])

    def test_none(self):
        self.expect(("none", A), CELLS, [({}, (), 1)])
        self.expect(("none", B), HUGE, [({}, (), 1)])

    def test_anew_that_goes_on(self):
        self.expect(("anew", A, C, T), CELLS, [
            ({}, (70,), 1),
            ({}, (70, 40), 2),
            ({}, (70, 40), 3),
            ({0: 40}, (), 4),
        ])
        self.expect(("anew", B, D, T), CELLS, [
            ({}, (70,), 1),
            ({}, (70, 50), 2),
            ({}, (70, 50, 60), 3),
            ({}, (70, 50, 60), 4),
            ({1: 50}, (70, 50, 60), 5),
            ({1: 50, 2: 60}, (), 6),
        ])
        self.expect(("anew", D, B, A), HUGE, [
            ({}, (HUGE[0],), 1),
            ({}, (HUGE[0], HUGE[1]), 2),
            ({}, (HUGE[0], HUGE[1], HUGE[2]), 3),
            ({}, (HUGE[0], HUGE[1], HUGE[2]), 4),
            ({4: HUGE[1]}, (HUGE[0], HUGE[1], HUGE[2]), 5),
            ({4: HUGE[1], 5: HUGE[2]}, (), 6),
        ])

    def test_anew_that_goes_back(self):
        one = deed_of(BOXES, ("anew", A, C, T))
        self.assertEqual(one.after(2, CELLS, (71, 40)), (CELLS, (), 0))
        self.assertEqual(one.after(2, CELLS, (69, 70)), (CELLS, (), 0))
        two = deed_of(BOXES, ("anew", B, D, T))
        self.assertEqual(two.after(3, CELLS, (71, 50, 60)), (CELLS, (), 0))
        self.assertEqual(two.after(3, CELLS, (0, 70, 70)), (CELLS, (), 0))
        self.assertEqual(two.after(3, HUGE, (HUGE[6] + 1, HUGE[4], HUGE[5])), (HUGE, (), 0))

    def test_anew_asks_the_tally_alone(self):
        two = deed_of(BOXES, ("anew", B, D, T))
        self.assertEqual(two.after(3, CELLS, (70, 1, 2)), (CELLS, (70, 1, 2), 4))
        self.assertEqual(two.after(3, HUGE, (HUGE[6], 1, 2)), (HUGE, (HUGE[6], 1, 2), 4))

    def test_anew_reads_all_again_when_it_went_back(self):
        made = deed_of(BOXES, ("anew", B, D, T))
        cells, hand, turn = made.after(0, CELLS, ())
        cells, hand, turn = made.after(turn, cells, hand)
        cells = swapped(cells, {4: 51, 5: 61, 6: 71})
        cells, hand, turn = made.after(turn, cells, hand)
        self.assertEqual((hand, turn), ((70, 50, 61), 3))
        cells, hand, turn = made.after(turn, cells, hand)
        self.assertEqual((cells, hand, turn), (swapped(CELLS, {4: 51, 5: 61, 6: 71}), (), 0))
        while turn != made.turns():
            cells, hand, turn = made.after(turn, cells, hand)
        self.assertEqual((cells, hand), (swapped(CELLS, {1: 51, 2: 61, 4: 51, 5: 61, 6: 71}), ()))

    def test_hands_of_other_numbers_and_turns_out_of_order(self):
        asked = (
            (("grow", B, 5), 3, (1, 2), ({2: 7}, (), 4)),
            (("grow", B, 5), 0, (), ({}, (20,), 1)),
            (("grow", B, 5), 2, (-1, 10 ** 29), ({1: 4}, (-1, 10 ** 29), 3)),
            (("grow", B, 5), 3, (-1, 10 ** 29), ({2: 10 ** 29 + 5}, (), 4)),
            (("grow", B, 5), 1, (99,), ({}, (99, 30), 2)),
            (("grow", A, -5), 1, (3,), ({0: -2}, (), 2)),
            (("anew", B, D, T), 5, (1, 2, 3), ({2: 3}, (), 6)),
            (("anew", B, D, T), 4, (1, 2, 3), ({1: 2}, (1, 2, 3), 5)),
            (("anew", B, D, T), 2, (8, 9), ({}, (8, 9, 60), 3)),
            (("anew", B, D, T), 0, (), ({}, (70,), 1)),
            (("anew", B, D, T), 1, (8,), ({}, (8, 50), 2)),
            (("anew", A, C, T), 3, (1, -10 ** 29), ({0: -10 ** 29}, (), 4)),
            (("anew", A, C, T), 1, (6,), ({}, (6, 40), 2)),
            (("put", B, (1, 2)), 1, (), ({2: 2}, (), 2)),
            (("put", B, (1, 2)), 0, (), ({1: 1}, (), 1)),
            (("copy", D, B), 1, (), ({5: 30}, (), 2)),
            (("copy", D, B), 0, (), ({4: 20}, (), 1)),
            (("still", 9), 8, (), ({}, (), 9)),
            (("still", 9), 3, (), ({}, (), 4)),
        )
        made = {deed: deed_of(BOXES, deed) for deed, turn, hand, wanted in asked}
        for deed, turn, hand, (changes, kept, behind) in asked + asked[::-1]:
            with self.subTest(deed=deed, turn=turn, hand=hand):
                told = made[deed].after(turn, CELLS, hand)
                self.assertEqual(told, (swapped(CELLS, changes), kept, behind))

    def test_told_again_the_same(self):
        for deed in (("put", B, (1, 2)), ("copy", B, D), ("grow", B, 5), ("tick", A), ("anew", B, D, T)):
            made = deed_of(BOXES, deed)
            with self.subTest(deed=deed):
                self.assertEqual(made.after(0, CELLS, ()), made.after(0, CELLS, ()))
                self.assertEqual(walked(deed, CELLS), walked(deed, CELLS))

    def test_tuples_handed_in_stay_as_they_were(self):
        hands = {
            ("put", B, (1, 2)): [(), ()],
            ("copy", B, D): [(), ()],
            ("grow", B, 5): [(), (1,), (1, 2), (1, 2)],
            ("tick", A): [()],
            ("still", 2): [(), ()],
            ("is", A, C, 0): [()],
            ("most", A, C, 0): [()],
            ("none", A): [()],
            ("anew", B, D, T): [(), (1,), (1, 2), (1, 2, 3), (1, 2, 3), (1, 2, 3)],
        }
        for deed, given in hands.items():
            made = deed_of(BOXES, deed)
            for turn, hand in enumerate(given):
                cells, before = tuple(list(CELLS)), tuple(list(hand))
                made.after(turn, cells, hand)
                with self.subTest(deed=deed, turn=turn):
                    self.assertEqual(cells, CELLS)
                    self.assertEqual(hand, before)

    def test_only_cells_that_are_told_written_change(self):
        deeds = (("put", B, (1, 2)), ("copy", B, D), ("grow", B, 5), ("tick", A), ("still", 3), ("anew", B, D, T))
        for deed in deeds:
            made = deed_of(BOXES, deed)
            ahead = CELLS
            for turn, told in enumerate(walked(deed, CELLS)):
                changed = [k for k in range(len(CELLS)) if told[0][k] != ahead[k]]
                with self.subTest(deed=deed, turn=turn):
                    self.assertEqual(changed, made.writes(turn))
                ahead = told[0]


if __name__ == "__main__":
    unittest.main()
