"""Promise 5, and 2 where it speaks of bellnest.cells."""

import unittest

from bellnest.cells import box_of, cells_of, size_of, starts_of

LOW = -1000000000
HIGH = 1000000000

ONE = (("a", (5,)),)
TWO = (("a", (5, 6)),)
MIXED = (("a", (LOW,)), ("b", (HIGH, LOW)), ("c", (0,)), ("d", (-3, 4)))
EIGHT = (
    ("a", (1,)), ("b", (2, 3)), ("c", (4, 5)), ("d", (6,)),
    ("e", (7,)), ("f", (8, 9)), ("g", (HIGH,)), ("h", (LOW, HIGH)),
)

# boxes, the cells of each box, all starts
TOLD = (
    ((), [], ()),
    (ONE, [[0]], (5,)),
    (TWO, [[0, 1]], (5, 6)),
    (MIXED, [[0], [1, 2], [3], [4, 5]], (LOW, HIGH, LOW, 0, -3, 4)),
    (
        EIGHT,
        [[0], [1, 2], [3, 4], [5], [6], [7, 8], [9], [10, 11]],
        (1, 2, 3, 4, 5, 6, 7, 8, 9, HIGH, LOW, HIGH),
    ),
    (tuple((name, (0,)) for name in "abcdefgh"), [[k] for k in range(8)], (0,) * 8),
    (tuple((name, (0, 1)) for name in "abcdefgh"), [[2 * k, 2 * k + 1] for k in range(8)], (0, 1) * 8),
)


class CellsTest(unittest.TestCase):

    def test_sizes(self):
        for boxes, cells, starts in TOLD:
            with self.subTest(boxes=boxes):
                self.assertEqual([size_of(boxes, x) for x in range(len(boxes))], [len(row) for row in cells])

    def test_cells_are_numbered_box_by_box(self):
        for boxes, cells, starts in TOLD:
            with self.subTest(boxes=boxes):
                self.assertEqual([cells_of(boxes, x) for x in range(len(boxes))], cells)

    def test_each_cell_has_its_box(self):
        for boxes, cells, starts in TOLD:
            for x, row in enumerate(cells):
                for cell in row:
                    with self.subTest(boxes=boxes, cell=cell):
                        self.assertEqual(box_of(boxes, cell), x)

    def test_starts(self):
        for boxes, cells, starts in TOLD:
            with self.subTest(boxes=boxes):
                self.assertEqual(starts_of(boxes), starts)

    def test_kinds_told(self):
        for boxes, cells, starts in TOLD:
            self.assertIs(type(starts_of(boxes)), tuple)
            for x in range(len(boxes)):
                self.assertIs(type(size_of(boxes, x)), int)
                self.assertIs(type(cells_of(boxes, x)), list)
                for cell in cells_of(boxes, x):
                    self.assertIs(type(cell), int)
                    self.assertIs(type(box_of(boxes, cell)), int)

    def test_changing_a_told_list_changes_nothing_told_later(self):
        for boxes, cells, starts in TOLD:
            for x, row in enumerate(cells):
                told = cells_of(boxes, x)
                told[0] = 99
                told.append(100)
                with self.subTest(boxes=boxes, x=x):
                    self.assertEqual(cells_of(boxes, x), row)
                    self.assertEqual(size_of(boxes, x), len(row))
                    self.assertEqual(box_of(boxes, row[0]), x)
                    self.assertEqual(starts_of(boxes), starts)

    def test_boxes_handed_in_stay_as_they_were(self):
        boxes = (("a", (5,)), ("b", (LOW, HIGH)))
        size_of(boxes, 1)
        cells_of(boxes, 1)
        box_of(boxes, 2)
        starts_of(boxes)
        self.assertEqual(boxes, (("a", (5,)), ("b", (LOW, HIGH))))

    def test_arguments_by_name(self):
        self.assertEqual(size_of(boxes=MIXED, x=3), 2)
        self.assertEqual(cells_of(boxes=MIXED, x=3), [4, 5])
        self.assertEqual(box_of(boxes=MIXED, cell=5), 3)
        self.assertEqual(starts_of(boxes=ONE), (5,))


if __name__ == "__main__":
    unittest.main()
