"""Promises 6 and 7: of each kind of deed its turns, and the cells that each turn reads and writes."""

import unittest

from bellnest.deeds import Deed, Promise, deed_of

# The cells: a has 0; b has 1 and 2; c has 3; d has 4 and 5; t has 6.
A, B, C, D, T = range(5)
BOXES = (("a", (5,)), ("b", (7, 8)), ("c", (1,)), ("d", (-3, 4)), ("t", (0,)))

HIGH = 1000000000

# a deed, and of each of its turns the cells read and the cells written
PLANS = (
    (("put", A, (9,)), [([], [0])]),
    (("put", T, (-HIGH,)), [([], [6])]),
    (("put", B, (9, -9)), [([], [1]), ([], [2])]),
    (("put", D, (HIGH, 0)), [([], [4]), ([], [5])]),
    (("copy", A, C), [([3], [0])]),
    (("copy", C, A), [([0], [3])]),
    (("copy", B, D), [([4], [1]), ([5], [2])]),
    (("copy", D, B), [([1], [4]), ([2], [5])]),
    (("grow", A, 4), [([0], []), ([], [0])]),
    (("grow", C, 0), [([3], []), ([], [3])]),
    (("grow", B, -2), [([1], []), ([2], []), ([], [1]), ([], [2])]),
    (("grow", D, HIGH), [([4], []), ([5], []), ([], [4]), ([], [5])]),
    (("tick", A), [([0], [0])]),
    (("tick", T), [([6], [6])]),
    (("still", 1), [([], [])]),
    (("still", 2), [([], [])] * 2),
    (("still", 9), [([], [])] * 9),
    (("is", A, C, 0), [([0, 3], [])]),
    (("is", C, A, 1), [([0, 3], [])]),
    (("is", A, A, -1), [([0], [])]),
    (("is", B, D, HIGH), [([1, 2, 4, 5], [])]),
    (("is", D, B, 0), [([1, 2, 4, 5], [])]),
    (("is", B, B, 0), [([1, 2], [])]),
    (("most", A, C, 0), [([0, 3], [])]),
    (("most", T, A, 1), [([0, 6], [])]),
    (("most", T, T, 1), [([6], [])]),
    (("most", B, D, -HIGH), [([1, 2, 4, 5], [])]),
    (("most", D, B, 0), [([1, 2, 4, 5], [])]),
    (("most", D, D, 0), [([4, 5], [])]),
    (("none", A), [([], [])]),
    (("none", B), [([], [])]),
    (("anew", A, C, T), [([6], []), ([3], []), ([6], []), ([], [0])]),
    (("anew", T, A, C), [([3], []), ([0], []), ([3], []), ([], [6])]),
    (("anew", B, D, T), [([6], []), ([4], []), ([5], []), ([6], []), ([], [1]), ([], [2])]),
    (("anew", D, B, A), [([0], []), ([1], []), ([2], []), ([0], []), ([], [4]), ([], [5])]),
)


def plan_of(made):
    return [(made.reads(turn), made.writes(turn)) for turn in range(made.turns())]


class PlansTest(unittest.TestCase):

    def test_all_nine_kinds_are_asked(self):
        kinds = {deed[0] for deed, plan in PLANS}
        self.assertEqual(kinds, {"put", "copy", "grow", "tick", "still", "is", "most", "none", "anew"})

    def test_how_many_turns(self):
        for deed, plan in PLANS:
            with self.subTest(deed=deed):
                turns = deed_of(BOXES, deed).turns()
                self.assertEqual(turns, len(plan))
                self.assertIs(type(turns), int)

    def test_cells_read_and_written_at_each_turn(self):
        for deed, plan in PLANS:
            with self.subTest(deed=deed):
                self.assertEqual(plan_of(deed_of(BOXES, deed)), plan)

    def test_cells_asked_from_the_last_turn_on(self):
        for deed, plan in PLANS:
            made = deed_of(BOXES, deed)
            for turn in reversed(range(len(plan))):
                with self.subTest(deed=deed, turn=turn):
                    self.assertEqual(made.writes(turn), plan[turn][1])
                    self.assertEqual(made.reads(turn), plan[turn][0])

    def test_cells_told_are_lists(self):
        for deed, plan in PLANS:
            made = deed_of(BOXES, deed)
            for turn in range(len(plan)):
                with self.subTest(deed=deed, turn=turn):
                    self.assertIs(type(made.reads(turn)), list)
                    self.assertIs(type(made.writes(turn)), list)

    def test_changing_told_lists_changes_nothing_told_later(self):
        cells = (10, 20, 30, 40, 50, 60, 70)
        for deed, plan in PLANS:
            made = deed_of(BOXES, deed)
            other = deed_of(BOXES, deed)
            for turn in range(len(plan)):
                for told in (made.reads(turn), made.writes(turn)):
                    told.insert(0, 99)
                    told.append(100)
                    told.reverse()
            with self.subTest(deed=deed):
                self.assertEqual(plan_of(made), plan)
                self.assertEqual(plan_of(other), plan)
                self.assertEqual(plan_of(deed_of(BOXES, deed)), plan)
                self.assertEqual(made.turns(), len(plan))
                self.assertEqual(made.after(0, cells, ()), other.after(0, cells, ()))

    def test_all_are_deeds_and_three_kinds_are_promises(self):
        self.assertTrue(issubclass(Promise, Deed))
        for deed, plan in PLANS:
            made = deed_of(BOXES, deed)
            with self.subTest(deed=deed):
                self.assertIsInstance(made, Deed)
                self.assertEqual(isinstance(made, Promise), deed[0] in ("is", "most", "none"))

    def test_two_deeds_do_not_share(self):
        first = deed_of(BOXES, ("put", A, (1,)))
        second = deed_of(BOXES, ("put", B, (2, 3)))
        self.assertEqual(plan_of(first), [([], [0])])
        self.assertEqual(plan_of(second), [([], [1]), ([], [2])])
        self.assertEqual(first.after(0, (0,) * 7, ()), ((1, 0, 0, 0, 0, 0, 0), (), 1))

    def test_without_boxes(self):
        self.assertEqual(plan_of(deed_of((), ("still", 3))), [([], [])] * 3)

    def test_eight_boxes_of_two_cells(self):
        boxes = tuple((name, (0, 0)) for name in "abcdefgh")
        self.assertEqual(plan_of(deed_of(boxes, ("copy", 7, 0))), [([0], [14]), ([1], [15])])
        for x in range(8):
            for y in range(8):
                cells = sorted({2 * x, 2 * x + 1, 2 * y, 2 * y + 1})
                for kind in ("is", "most"):
                    with self.subTest(kind=kind, x=x, y=y):
                        self.assertEqual(plan_of(deed_of(boxes, (kind, x, y, 0))), [(cells, [])])

    def test_what_is_handed_in_stays_as_it_was(self):
        for deed, plan in PLANS:
            boxes = tuple((name, tuple(starts)) for name, starts in BOXES)
            handed = tuple(deed)
            plan_of(deed_of(boxes, handed))
            with self.subTest(deed=deed):
                self.assertEqual(boxes, BOXES)
                self.assertEqual(handed, deed)

    def test_arguments_by_name(self):
        made = deed_of(boxes=BOXES, deed=("tick", C))
        self.assertEqual(made.reads(turn=0), [3])
        self.assertEqual(made.writes(turn=0), [3])
        self.assertEqual(made.after(turn=0, cells=(0, 0, 0, 1, 0, 0, 0), hand=()), ((0, 0, 0, 2, 0, 0, 0), (), 1))


if __name__ == "__main__":
    unittest.main()
