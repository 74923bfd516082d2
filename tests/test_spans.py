"""Promises 7 and 24 where they speak of the boxes that a deed touches, writes and spans."""

import unittest

from bellnest.spans import spans, touches_box, writes_box

from helper import cells_in, plan, programs_drawn

A, B, C, D, T = range(5)
BOXES = (("a", (5,)), ("b", (7, 8)), ("c", (1,)), ("d", (-3, 4)), ("t", (0,)))

# a deed, the boxes that it touches, those that it writes, and its spans
TOLD = (
    (("put", A, (9,)), [A], [A], []),
    (("put", B, (9, 9)), [B], [B], [(B, 0, 1)]),
    (("put", D, (9, 9)), [D], [D], [(D, 0, 1)]),
    (("copy", A, C), [A, C], [A], []),
    (("copy", C, A), [A, C], [C], []),
    (("copy", B, D), [B, D], [B], [(B, 0, 1), (D, 0, 1)]),
    (("copy", D, B), [B, D], [D], [(B, 0, 1), (D, 0, 1)]),
    (("grow", A, 1), [A], [A], [(A, 0, 1)]),
    (("grow", T, 0), [T], [T], [(T, 0, 1)]),
    (("grow", B, 1), [B], [B], [(B, 0, 3)]),
    (("grow", D, -1), [D], [D], [(D, 0, 3)]),
    (("tick", A), [A], [A], []),
    (("tick", T), [T], [T], []),
    (("still", 1), [], [], []),
    (("still", 9), [], [], []),
    (("is", A, C, 0), [A, C], [], []),
    (("is", A, A, 0), [A], [], []),
    (("is", B, D, 0), [B, D], [], []),
    (("is", D, D, 1), [D], [], []),
    (("most", C, A, 0), [A, C], [], []),
    (("most", D, B, 0), [B, D], [], []),
    (("most", B, B, 0), [B], [], []),
    (("none", A), [], [], []),
    (("none", B), [], [], []),
    (("anew", A, C, T), [A, C, T], [A], []),
    (("anew", T, A, C), [A, C, T], [T], []),
    (("anew", B, D, T), [B, D, T], [B], [(B, 4, 5)]),
    (("anew", D, B, A), [A, B, D], [D], [(D, 4, 5)]),
)


class SpansTest(unittest.TestCase):

    def test_every_kind_is_asked(self):
        self.assertEqual(len({deed[0] for deed, touched, written, spanned in TOLD}), 9)

    def test_told(self):
        for deed, touched, written, spanned in TOLD:
            with self.subTest(deed=deed):
                self.assertEqual(spans(BOXES, deed), spanned)
                for x in range(5):
                    self.assertIs(touches_box(BOXES, deed, x), x in touched)
                    self.assertIs(writes_box(BOXES, deed, x), x in written)

    def test_kinds_told(self):
        for deed, touched, written, spanned in TOLD:
            told = spans(BOXES, deed)
            self.assertIs(type(told), list)
            for span in told:
                self.assertEqual([type(part) for part in (span,) + span], [tuple, int, int, int])

    def test_boxes_in_falling_order(self):
        boxes = (("z", (0, 0)), ("y", (0,)), ("x", (0, 0)), ("w", (0,)))
        self.assertEqual(spans(boxes, ("copy", 2, 0)), [(0, 0, 1), (2, 0, 1)])
        self.assertEqual(spans(boxes, ("anew", 2, 0, 3)), [(2, 4, 5)])
        self.assertEqual(spans(boxes, ("anew", 0, 2, 1)), [(0, 4, 5)])

    def test_without_boxes(self):
        self.assertEqual(spans((), ("still", 9)), [])

    def test_drawn_deeds(self):
        for program in programs_drawn(range(150), boxes=8, places=8):
            boxes = program[0]
            for deed in [deed for name, rank, places in program[1] for deed, word in places]:
                turns = plan(boxes, deed)
                wanted = []
                for x in range(len(boxes)):
                    own = set(cells_in(boxes, x))
                    touched = [k for k, (reads, writes) in enumerate(turns) if own & set(reads + writes)]
                    self.assertIs(touches_box(boxes, deed, x), touched != [])
                    self.assertIs(writes_box(boxes, deed, x), any(own & set(writes) for reads, writes in turns))
                    if len(touched) >= 2 and (deed[0] != "anew" or x == deed[1]):
                        wanted.append((x, touched[0], touched[-1]))
                self.assertEqual(spans(boxes, deed), wanted)

    def test_told_lists_are_the_askers_own(self):
        for deed, touched, written, spanned in TOLD:
            told = spans(BOXES, deed)
            told.append((0, 0, 0))
            told.reverse()
            self.assertEqual(spans(BOXES, deed), spanned)

    def test_arguments_by_name(self):
        deed = ("copy", B, D)
        self.assertEqual(spans(boxes=BOXES, deed=deed), [(B, 0, 1), (D, 0, 1)])
        self.assertIs(touches_box(boxes=BOXES, deed=deed, x=D), True)
        self.assertIs(writes_box(boxes=BOXES, deed=deed, x=D), False)


if __name__ == "__main__":
    unittest.main()
