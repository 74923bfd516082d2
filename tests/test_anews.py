"""Promises 26 and 27, and 4 where it speaks of readings anew."""

import random
import unittest

from bellnest.anews import anews, loose, loosening

from helper import (
    cells_in, deed_in, plan, programs_drawn, ringings_drawn, turn_of, walked, word_in,
)

# x, y of one cell, v, w of two, t the tally, s another one
X, Y, V, W, T, U = range(6)
BOXES = (("x", (0,)), ("y", (1,)), ("v", (0, 0)), ("w", (1, 2)), ("t", (3,)), ("s", (0,)))
STILL = ("still", 1)
ONE = ("anew", X, Y, T)
TWO = ("anew", V, W, T)


def row(name, rank, *deeds):
    return (name, rank, tuple((deed, 0) for deed in deeds))


def program_of(anew, *deeds, rank=3, word=0):
    """main with the anew at place 1, and a bell with these deeds."""
    return (BOXES, (("main", 0, ((STILL, 0), (anew, word), (STILL, 0))), row("p", rank, *deeds)))


def writes(boxes, deed, x):
    own = set(cells_in(boxes, x))
    return any(own & set(written) for read, written in plan(boxes, deed))


def loose_wanted(program, i, p):
    """All (k, q) by which an anew is loose, as promise 26 tells them."""
    boxes, rows = program
    kind, x, y, t = deed_in(program, i, p)
    found = set()
    for k in range(1, len(rows)):
        if rows[k][1] <= rows[i][1] or word_in(program, i, p) & (1 << k):
            continue
        ticks = any(deed == ("tick", t) for deed, word in rows[k][2])
        for q, (deed, word) in enumerate(rows[k][2]):
            if writes(boxes, deed, t) and deed[0] != "tick" or writes(boxes, deed, y) and not ticks:
                found.add((k, q))
    return found


def loosens(program, i, p, found, ringings):
    """Whether a turn of the deed found that writes t or y is done while the anew stands at a turn from 1 to m + 1."""
    boxes = program[0]
    kind, x, y, t = deed_in(program, i, p)
    watched = set(cells_in(boxes, y) + cells_in(boxes, t))
    last = len(cells_in(boxes, y)) + 1
    for pile, cells, event in walked(program, ringings)[0]:
        if event[0] == "turn" and (event[1], event[2]) == found:
            if set(plan(boxes, deed_in(program, *found))[event[3]][1]) & watched:
                if any(frame[:2] == (i, p) and 1 <= frame[2] <= last for frame in pile):
                    return True
    return False


# a bell's deeds, and the places by which the anew ONE and TWO are loose
LOOSE = (
    ([STILL], [], []),
    ([("tick", T)], [], []),
    ([("put", T, (0,))], [0], [0]),
    ([("grow", T, 1)], [0], [0]),
    ([("copy", T, U)], [0], [0]),
    ([("anew", T, U, X)], [0], [0]),
    ([("put", Y, (0,))], [0], []),
    ([("grow", Y, 1)], [0], []),
    ([("tick", Y)], [0], []),
    ([("copy", Y, X)], [0], []),
    ([("anew", Y, X, T)], [0], []),
    ([("put", W, (0, 1))], [], [0]),
    ([("grow", W, 1)], [], [0]),
    ([("copy", W, V)], [], [0]),
    ([("anew", W, V, T)], [], [0]),
    # reading alone loosens nothing
    ([("copy", X, Y), ("copy", V, W), ("copy", X, T), ("is", Y, T, 0), ("most", W, W, 0), ("none", Y)], [], []),
    ([("put", X, (1,)), ("put", V, (1, 1)), ("tick", U), ("tick", X)], [], []),
    # a tick of t in the bell's row, ahead or behind
    ([("tick", T), ("put", Y, (0,)), ("put", W, (0, 0))], [], []),
    ([("put", Y, (0,)), ("put", W, (0, 0)), ("tick", T)], [], []),
    ([("put", Y, (0,)), ("put", W, (0, 0)), STILL, ("tick", T), STILL], [], []),
    # a tick of another box is none
    ([("put", Y, (0,)), ("put", W, (0, 0)), ("tick", U)], [0], [1]),
    ([("tick", X), ("put", W, (0, 0)), ("put", Y, (0,))], [2], [1]),
    # with a tick of t a put of t loosens all the same
    ([("tick", T), ("put", T, (0,)), ("put", Y, (0,)), ("put", W, (1, 1))], [1], [1]),
    ([("grow", T, 1), ("tick", T)], [0], [0]),
    # several
    ([("put", Y, (0,)), ("put", T, (0,)), ("put", W, (1, 1)), ("grow", T, 0)], [0, 1, 3], [1, 2, 3]),
    ([("put", Y, (0,)), ("tick", Y), ("copy", Y, U)], [0, 1, 2], []),
)


class AnewsTest(unittest.TestCase):

    def test_all_of_them_rising(self):
        program = (BOXES, (
            row("main", 0, ONE, STILL, TWO), row("p", 1, STILL), row("q", 1, TWO, ONE), row("r", 2, STILL, STILL, ONE)))
        told = anews(program)
        self.assertEqual(told, [(0, 0), (0, 2), (2, 0), (2, 1), (3, 2)])
        self.assertIs(type(told), list)
        self.assertEqual([type(part) for part in told], [tuple] * 5)
        told.clear()
        self.assertEqual(len(anews(program)), 5)

    def test_none_at_all(self):
        self.assertEqual(anews(((), (("main", 0, ((STILL, 0),)),))), [])
        self.assertEqual(anews((BOXES, (row("main", 0, ("copy", X, Y)), row("p", 1, ("tick", T))))), [])

    def test_drawn_programs(self):
        for program in programs_drawn(range(100), boxes=6, places=8):
            wanted = [(k, p) for k in range(len(program[1])) for p in range(len(program[1][k][2]))
                      if deed_in(program, k, p)[0] == "anew"]
            self.assertEqual(anews(program), wanted)

    def test_arguments_by_name(self):
        program = program_of(ONE, ("put", Y, (0,)))
        self.assertEqual(anews(program=program), [(0, 1)])
        self.assertEqual(loose(program=program, row=0, place=1), (1, 0))
        self.assertIs(type(loosening(program=program, row=0, place=1, found=(1, 0))), list)


class LooseTest(unittest.TestCase):

    def asked(self, program, i, p, wanted):
        """wanted: all (k, q) by which the anew is loose."""
        self.assertEqual(loose_wanted(program, i, p), set(wanted))
        told = loose(program, i, p)
        with self.subTest(program=program, i=i, p=p):
            if not wanted:
                self.assertIsNone(told)
                return
            self.assertIn(told, wanted)
            self.assertEqual([type(part) for part in (told,) + told], [tuple, int, int])
            for found in wanted:
                words = loosening(program, i, p, found)
                self.assertIs(type(words), list)
                self.assertTrue(loosens(program, i, p, found, words), found)
                words.clear()
                self.assertTrue(loosens(program, i, p, found, loosening(program, i, p, found)), found)

    def test_told(self):
        for deeds, one, two in LOOSE:
            self.asked(program_of(ONE, *deeds), 0, 1, [(1, q) for q in one])
            self.asked(program_of(TWO, *deeds), 0, 1, [(1, q) for q in two])

    def test_a_place_shut_to_the_bell(self):
        for deeds, one, two in LOOSE:
            self.asked(program_of(ONE, *deeds, word=2), 0, 1, [])
            self.asked(program_of(TWO, *deeds, word=2), 0, 1, [])

    def test_by_rank_and_by_the_place_alone(self):
        put = ("put", T, (0,))
        rows = (row("main", 0, STILL), ("p", 4, ((STILL, 0), (ONE, 0))), row("q", 4, put), row("r", 3, put), row("s", 5, put))
        self.asked((BOXES, rows), 1, 1, [(4, 0)])
        # another place that is shut helps nothing
        rows = (row("main", 0, STILL), ("p", 4, ((STILL, 16), (ONE, 8))), row("q", 4, put), row("r", 3, put), row("s", 5, put))
        self.asked((BOXES, rows), 1, 1, [(4, 0)])
        rows = (row("main", 0, STILL), ("p", 4, ((STILL, 0), (ONE, 16))), row("q", 4, put), row("r", 3, put), row("s", 5, put))
        self.asked((BOXES, rows), 1, 1, [])
        rows = (("main", 0, ((ONE, 4 | 8),)), row("p", 4, STILL), row("q", 4, put), row("r", 3, put), row("s", 5, put))
        self.asked((BOXES, rows), 0, 0, [(4, 0)])

    def test_the_tick_of_another_bell_helps_nothing(self):
        rows = (row("main", 0, ONE), row("p", 1, ("tick", T)), row("q", 2, ("put", Y, (0,))))
        self.asked((BOXES, rows), 0, 0, [(2, 0)])

    def test_main_is_shut_while_a_bells_anew_is_loose(self):
        rows = (("main", 0, ((STILL, 6),)), row("p", 1, STILL, TWO), row("q", 2, ("grow", W, 1), ("copy", T, U)))
        self.asked((BOXES, rows), 1, 1, [(2, 0), (2, 1)])

    def test_drawn_programs(self):
        sure = 0
        found = 0
        for program in programs_drawn(range(300), boxes=5, bells=4, places=5, shut=0.3):
            for i, p in anews(program):
                wanted = loose_wanted(program, i, p)
                self.asked(program, i, p, wanted)
                sure += not wanted
                found += len(wanted)
        self.assertGreater(sure, 100)
        self.assertGreater(found, 100)


def guarded_drawn(seed):
    """A program with anews in main and in a bell, whose bells tick the tally in most rows that write."""
    rng = random.Random(seed)
    size = rng.choice((1, 2))
    boxes = (("x", (0,) * size), ("y", (1,) * size), ("t", (0,)), ("u", (5,) * size))
    rows = []
    for number in range(rng.randint(2, 4)):
        deeds = [rng.choice((("anew", 0, 1, 2), ("still", 1), ("grow", 1, 1), ("copy", 1, 3), ("tick", 2), ("grow", 3, 2)))
                 for place in range(rng.randint(1, 4))]
        if number == 0:
            deeds.insert(rng.randrange(len(deeds) + 1), ("anew", 0, 1, 2))
        elif rng.random() < 0.8:
            deeds.insert(rng.randrange(len(deeds) + 1), ("tick", 2))
        word = rng.choice((0, 0, 0, 4))
        rows.append(("main" if number == 0 else "pqr"[number - 1], number, tuple((deed, word) for deed in deeds)))
    if len(rows) < 3:
        rows = [(name, rank, tuple((deed, 0) for deed, word in places)) for name, rank, places in rows]
    return (boxes, tuple(rows))


class EveryRunTest(unittest.TestCase):

    def held(self, program, ringings):
        """How often a turn m + 1 of a sure anew went on, with an anew's going back counted apart."""
        boxes = program[0]
        sure = {(i, p) for i, p in anews(program) if loose(program, i, p) is None}
        since = {}
        on = back = 0
        for pile, cells, event in walked(program, ringings)[0]:
            for frame in pile:
                since.setdefault(frame[:2], []).append(cells)
            if event[0] != "turn" or (event[1], event[2]) not in sure:
                continue
            where = (event[1], event[2])
            ys = cells_in(boxes, deed_in(program, *where)[2])
            if event[3] == 0:
                since[where] = [cells]
            if event[3] == len(ys) + 1:
                following = turn_of(program, pile, cells)[0][-1]
                if following[2] == 0:
                    back += 1
                    continue
                on += 1
                read = pile[-1][3][1:]
                for seen in since[where]:
                    self.assertEqual(tuple(seen[cell] for cell in ys), read)
        return on, back

    def test_a_sure_anew_goes_on_with_just_what_stands_in_its_box(self):
        on = back = 0
        for seed in range(500):
            program = guarded_drawn(seed)
            rng = random.Random(seed)
            for often in (0.1, 0.3):
                told = self.held(program, ringings_drawn(rng, program, 30, often))
                on += told[0]
                back += told[1]
        self.assertGreater(on, 500)
        self.assertGreater(back, 100)

    def test_drawn_programs(self):
        for seed, program in enumerate(programs_drawn(range(200), boxes=5, bells=3, places=4)):
            self.held(program, ringings_drawn(random.Random(seed), program, 30, 0.2))


if __name__ == "__main__":
    unittest.main()
