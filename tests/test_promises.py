"""Promise 6 where it speaks of what an is and a most promise: bellnest.promises."""

import unittest

from bellnest.promises import promise_of

# The cells: a has 0; b has 1 and 2; c has 3; d has 4 and 5; t has 6.
A, B, C, D, T = range(5)
BOXES = (("a", (5,)), ("b", (7, 8)), ("c", (1,)), ("d", (-3, 4)), ("t", (0,)))
CELLS = {A: (0,), B: (1, 2), C: (3,), D: (4, 5), T: (6,)}

LOW, HIGH = -1000000000, 1000000000
BIG = 10 ** 29 + 123456789

OTHERS = (
    ("put", A, (9,)), ("put", B, (9, -9)), ("copy", A, C), ("copy", B, D), ("grow", A, 4), ("grow", B, 0),
    ("tick", T), ("still", 1), ("still", 9), ("none", A), ("none", B), ("anew", A, C, T), ("anew", B, D, T),
)


def cells_with(changes):
    cells = [1000 + 100 * cell for cell in range(7)]
    for cell, number in changes.items():
        cells[cell] = number
    return tuple(cells)


class PromisesTest(unittest.TestCase):

    def asked(self, deed, cells, wanted):
        told = promise_of(BOXES, deed)(cells)
        with self.subTest(deed=deed, cells=cells):
            self.assertIs(told, wanted)

    def test_each_cell_too_small_right_and_too_great(self):
        for x, y in ((A, C), (C, A), (A, T), (B, D), (D, B)):
            for n in (LOW, -3, -1, 0, 1, 3, HIGH):
                for base in (0, -7, BIG, -BIG):
                    right = {cell: base + 10 * k for k, cell in enumerate(CELLS[y])}
                    right.update({cell: base + 10 * k + n for k, cell in enumerate(CELLS[x])})
                    self.asked(("is", x, y, n), cells_with(right), True)
                    self.asked(("most", x, y, n), cells_with(right), True)
                    for cell in CELLS[x]:
                        less, more = dict(right), dict(right)
                        less[cell] -= 1
                        more[cell] += 1
                        self.asked(("is", x, y, n), cells_with(less), False)
                        self.asked(("is", x, y, n), cells_with(more), False)
                        self.asked(("most", x, y, n), cells_with(less), True)
                        self.asked(("most", x, y, n), cells_with(more), False)
                    for cell in CELLS[y]:
                        less, more = dict(right), dict(right)
                        less[cell] -= 1
                        more[cell] += 1
                        self.asked(("is", x, y, n), cells_with(less), False)
                        self.asked(("is", x, y, n), cells_with(more), False)
                        self.asked(("most", x, y, n), cells_with(less), False)
                        self.asked(("most", x, y, n), cells_with(more), True)

    def test_far_less_is_still_at_most(self):
        self.asked(("most", A, C, 0), cells_with({0: -BIG, 3: BIG}), True)
        self.asked(("most", B, D, 0), cells_with({1: -BIG, 2: 0, 4: BIG, 5: 0}), True)
        self.asked(("most", B, D, 0), cells_with({1: -BIG, 2: 1, 4: BIG, 5: 0}), False)
        self.asked(("most", B, D, 0), cells_with({1: 1, 2: -BIG, 4: 0, 5: BIG}), False)

    def test_one_cell_too_great_and_the_other_too_small(self):
        self.asked(("is", B, D, 0), cells_with({1: 1, 2: -1, 4: 0, 5: 0}), False)
        self.asked(("is", B, D, 0), cells_with({1: 5, 2: 6, 4: 6, 5: 5}), False)

    def test_a_box_with_itself(self):
        for x in (A, B):
            for n, equal, most in ((0, True, True), (1, False, True), (-1, False, False), (HIGH, False, True)):
                for base in (0, BIG):
                    cells = cells_with({cell: base + 50 * cell for cell in CELLS[x]})
                    self.asked(("is", x, x, n), cells, equal)
                    self.asked(("most", x, x, n), cells, most)

    def test_other_cells_are_not_asked(self):
        for others in (0, 99, -BIG):
            cells = tuple(7 if cell in (0, 3) else others for cell in range(7))
            self.asked(("is", A, C, 0), cells, True)
            self.asked(("most", A, C, -1), cells, False)

    def test_every_other_deed_promises_nothing(self):
        self.assertEqual({deed[0] for deed in OTHERS}, {"put", "copy", "grow", "tick", "still", "none", "anew"})
        for deed in OTHERS:
            for cells in ((0,) * 7, (BIG,) * 7, tuple(range(7))):
                self.asked(deed, cells, True)
        self.assertIs(promise_of((), ("still", 3))(()), True)

    def test_promises_made_beside_one_another(self):
        equal = promise_of(BOXES, ("is", A, C, 2))
        most = promise_of(BOXES, ("most", A, C, -2))
        passing = promise_of(BOXES, ("still", 1))
        for first, second, wanted in ((5, 3, (True, False)), (1, 3, (False, True)), (2, 3, (False, False))):
            cells = cells_with({0: first, 3: second})
            for time in range(2):
                self.assertEqual((equal(cells), most(cells), passing(cells)), wanted + (True,))

    def test_arguments_by_name(self):
        self.assertIs(promise_of(boxes=BOXES, deed=("is", A, A, 0))(cells_with({})), True)


if __name__ == "__main__":
    unittest.main()
