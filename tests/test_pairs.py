"""Promises 24 and 25, and 4 where it speaks of deeds amid one another: pairs and their meetings."""

import random
import unittest

from bellnest.errors import BellError, NoNest
from bellnest.pairs import meeting, pairs

from helper import cells_in, deed_in, plan, program_drawn, programs_drawn, ringings_drawn, walked

# The cells: a has 0; b has 1 and 2; c has 3; d has 4 and 5; t has 6.
A, B, C, D, T = range(5)
BOXES = (("a", (5,)), ("b", (7, 8)), ("c", (1,)), ("d", (-3, 4)), ("t", (0,)))
S = (("still", 1), 0)


def touched_at(boxes, deed, x):
    """The turns at which a deed touches a box."""
    own = set(cells_in(boxes, x))
    return [k for k, (reads, writes) in enumerate(plan(boxes, deed)) if own & set(reads + writes)]


def is_written(boxes, deed, x):
    own = set(cells_in(boxes, x))
    return any(own & set(writes) for reads, writes in plan(boxes, deed))


def span_in(boxes, deed, x):
    """First and last turn of the deed's span of the box, or None."""
    turns = touched_at(boxes, deed, x)
    if len(turns) < 2 or deed[0] == "anew" and x != deed[1]:
        return None
    return turns[0], turns[-1]


def pairs_wanted(program):
    """All pairs, as promise 24 tells them."""
    boxes, rows = program
    found = []
    everywhere = [(row, place) for row in range(len(rows)) for place in range(len(rows[row][2]))]
    for x in range(len(boxes)):
        for i, p in everywhere:
            for j, q in everywhere:
                one, other = deed_in(program, i, p), deed_in(program, j, q)
                writes = [is_written(boxes, one, x), is_written(boxes, other, x)]
                if i == j or span_in(boxes, one, x) is None or not touched_at(boxes, other, x) or not any(writes):
                    continue
                if rows[j][1] <= rows[i][1]:
                    word = "rank"
                elif rows[i][2][p][1] & (1 << j):
                    word = "shut"
                else:
                    word = "over" if all(writes) else "half"
                found.append((x, i, p, j, q, word))
    return sorted(found)


def met_in(program, ringings):
    """All (x, i, p, j, q) that a run does: a turn of j's deed that touches x amid i's deed, which spans it."""
    boxes = program[0]
    met = set()
    for pile, cells, event in walked(program, ringings)[0]:
        if event[0] != "turn":
            continue
        j, q, turn, hand = pile[-1]
        # at turn 0 a frame is amid nothing, and main at its end has no deed
        for i, p, at, kept in [frame for frame in pile[:-1] if frame[2] > 0]:
            for x in range(len(boxes)):
                span = span_in(boxes, deed_in(program, i, p), x)
                amid = span is not None and span[0] < at <= span[1]
                if amid and turn in touched_at(boxes, deed_in(program, j, q), x):
                    if is_written(boxes, deed_in(program, i, p), x) or is_written(boxes, deed_in(program, j, q), x):
                        met.add((x, i, p, j, q))
    return met


# one bell p of rank 2 and one q of rank 5; main's place 1 is shut to p
PLAIN = (BOXES, (
    ("main", 0, ((("grow", A, 1), 0), (("grow", A, 1), 2), (("copy", B, D), 0), (("tick", A), 0))),
    ("p", 2, ((("tick", A), 0), (("is", D, B, 0), 0))),
    ("q", 5, ((("grow", A, 1), 0), (("still", 1), 0), (("put", D, (1, 1)), 0))),
))
PLAIN_PAIRS = [
    (A, 0, 0, 1, 0, "over"),
    (A, 0, 0, 2, 0, "over"),
    (A, 0, 1, 1, 0, "shut"),
    (A, 0, 1, 2, 0, "over"),
    (A, 2, 0, 0, 0, "rank"),
    (A, 2, 0, 0, 1, "rank"),
    (A, 2, 0, 0, 3, "rank"),
    (A, 2, 0, 1, 0, "rank"),
    (B, 0, 2, 1, 1, "half"),
    (D, 0, 2, 2, 2, "half"),
    (D, 2, 2, 0, 2, "rank"),
    (D, 2, 2, 1, 1, "rank"),
]


def two_deeds(one, other, word=0, ranks=(1, 2)):
    """Two bells with one deed each."""
    return (BOXES, (("main", 0, (S,)), ("p", ranks[0], ((one, word),)), ("q", ranks[1], ((other, 0),))))


class PairsTest(unittest.TestCase):

    def test_told(self):
        told = pairs(PLAIN)
        self.assertEqual(told, PLAIN_PAIRS)
        self.assertIs(type(told), list)
        for pair in told:
            self.assertEqual([type(part) for part in (pair,) + pair], [tuple] + [int] * 5 + [str])

    def test_each_word(self):
        grow, tick, equal = ("grow", A, 1), ("tick", A), ("is", A, A, 0)
        self.assertEqual(pairs(two_deeds(grow, tick)), [(A, 1, 0, 2, 0, "over")])
        self.assertEqual(pairs(two_deeds(grow, equal)), [(A, 1, 0, 2, 0, "half")])
        self.assertEqual(pairs(two_deeds(grow, tick, word=4)), [(A, 1, 0, 2, 0, "shut")])
        self.assertEqual(pairs(two_deeds(grow, tick, word=2)), [(A, 1, 0, 2, 0, "over")])
        self.assertEqual(pairs(two_deeds(grow, tick, ranks=(2, 2))), [(A, 1, 0, 2, 0, "rank")])
        self.assertEqual(pairs(two_deeds(grow, tick, word=4, ranks=(2, 2))), [(A, 1, 0, 2, 0, "rank")])
        self.assertEqual(pairs(two_deeds(grow, tick, ranks=(3, 2))), [(A, 1, 0, 2, 0, "rank")])
        self.assertEqual(pairs(two_deeds(grow, grow)), [(A, 1, 0, 2, 0, "over"), (A, 2, 0, 1, 0, "rank")])

    def test_the_spanning_deed_reads_and_the_other_one_writes(self):
        self.assertEqual(pairs(two_deeds(("copy", B, D), ("put", D, (1, 2)))), [
            (D, 1, 0, 2, 0, "half"), (D, 2, 0, 1, 0, "rank")])
        self.assertEqual(pairs(two_deeds(("copy", B, D), ("copy", D, B))), [
            (B, 1, 0, 2, 0, "half"), (B, 2, 0, 1, 0, "rank"), (D, 1, 0, 2, 0, "half"), (D, 2, 0, 1, 0, "rank")])

    def test_no_pairs(self):
        for one, other in (
            (("tick", A), ("tick", A)),
            (("grow", A, 1), ("tick", C)),
            (("copy", B, D), ("is", D, D, 0)),
            (("grow", A, 1), ("none", A)),
            (("grow", A, 1), ("still", 1)),
            (("is", B, D, 0), ("put", B, (1, 2))),
            (("anew", A, C, T), ("tick", T)),
        ):
            with self.subTest(one=one, other=other):
                found = [pair for pair in pairs(two_deeds(one, other)) if pair[1] == 1]
                self.assertEqual(found, [])
        self.assertEqual(pairs(((), (("main", 0, (S,)),))), [])
        # two deeds of one row are no pair
        self.assertEqual(pairs((BOXES, (("main", 0, ((("grow", A, 1), 0), (("tick", A), 0))),))), [])

    def test_anews(self):
        anew = ("anew", B, D, T)
        self.assertEqual(pairs(two_deeds(anew, ("is", B, D, 0))), [(B, 1, 0, 2, 0, "half")])
        self.assertEqual(pairs(two_deeds(anew, ("put", B, (1, 2)))), [(B, 1, 0, 2, 0, "over"), (B, 2, 0, 1, 0, "rank")])
        self.assertEqual(pairs(two_deeds(anew, ("put", D, (1, 2)))), [(D, 2, 0, 1, 0, "rank")])
        self.assertEqual(pairs(two_deeds(("grow", T, 1), anew)), [(T, 1, 0, 2, 0, "half")])

    def test_drawn_programs_of_all_sizes(self):
        words = {}
        for bells in range(7):
            for places in (1, 4, 12):
                for seed in range(8):
                    program = program_drawn(seed, boxes=8, bells=bells, places=places, shut=0.3, ranks=9)
                    told = pairs(program)
                    self.assertEqual(told, pairs_wanted(program))
                    for pair in told:
                        words[pair[5]] = words.get(pair[5], 0) + 1
        self.assertEqual(set(words), {"rank", "shut", "over", "half"})

    def test_told_lists_are_the_askers_own(self):
        told = pairs(PLAIN)
        told.reverse()
        told.pop()
        self.assertEqual(pairs(PLAIN), PLAIN_PAIRS)

    def test_arguments_by_name(self):
        self.assertEqual(pairs(program=PLAIN), PLAIN_PAIRS)
        self.assertIs(type(meeting(program=PLAIN, pair=PLAIN_PAIRS[0])), list)


class MeetingTest(unittest.TestCase):

    def meet(self, program, pair):
        with self.subTest(pair=pair):
            if pair[5] in ("over", "half"):
                words = meeting(program, pair)
                self.assertIs(type(words), list)
                self.assertLessEqual({type(word) for word in words}, {int})
                self.assertIn(pair[:5], met_in(program, words))
                words.clear()
                self.assertIn(pair[:5], met_in(program, meeting(program, pair)))
                return
            with self.assertRaises(NoNest) as caught:
                meeting(program, pair)
            self.assertEqual(caught.exception.bell, pair[3])
            self.assertIsInstance(caught.exception, BellError)

    def test_told(self):
        for pair in PLAIN_PAIRS:
            self.meet(PLAIN, pair)

    def test_main_as_the_second_row(self):
        with self.assertRaises(NoNest) as caught:
            meeting(PLAIN, (A, 2, 0, 0, 3, "rank"))
        self.assertEqual(caught.exception.bell, 0)

    def test_every_kind_of_deed(self):
        spanning = (("put", B, (1, 2)), ("copy", B, D), ("grow", A, 1), ("grow", B, 1), ("anew", B, D, T), ("grow", T, 1),
                    ("copy", D, B))
        touching = (("put", A, (1,)), ("put", B, (1, 2)), ("copy", A, C), ("copy", C, A), ("copy", B, D), ("copy", D, B),
                    ("grow", A, 1), ("grow", B, 1), ("tick", A), ("tick", T), ("is", A, C, 0), ("most", B, D, 0),
                    ("anew", A, C, T), ("anew", B, D, T), ("anew", D, B, A), ("anew", C, T, A))
        for one in spanning:
            for other in touching:
                still = (("still", 2), 0)
                nested = (BOXES, (("main", 0, (still, (one, 0))), ("p", 1, (still, (one, 0))), ("q", 2, (still, (other, 0)))))
                for pair in pairs(nested):
                    self.meet(nested, pair)

    def test_main_is_shut_everywhere(self):
        grow = ("grow", A, 1)
        program = (BOXES, (("main", 0, ((grow, 6),)), ("p", 1, ((grow, 2),)), ("q", 2, ((grow, 6),))))
        self.assertEqual([pair[5] for pair in pairs(program)], ["shut", "shut", "rank", "over", "rank", "rank"])
        for pair in pairs(program):
            self.meet(program, pair)

    def test_drawn_programs(self):
        met = 0
        for program in programs_drawn(range(150), boxes=3, bells=4, places=5, shut=0.3):
            for pair in pairs(program):
                self.meet(program, pair)
                met += pair[5] in ("over", "half")
        self.assertGreater(met, 150)


class EveryRunTest(unittest.TestCase):

    def test_no_run_does_what_rank_or_a_shut_place_forbids(self):
        met = 0
        for seed, program in enumerate(programs_drawn(range(300), boxes=3, bells=5, places=6, shut=0.15)):
            free = {pair[:5] for pair in pairs(program) if pair[5] in ("over", "half")}
            rng = random.Random(seed)
            for often in (0.1, 0.4):
                found = met_in(program, ringings_drawn(rng, program, 60, often))
                self.assertLessEqual(found, free)
                met += len(found)
        self.assertGreater(met, 100)


if __name__ == "__main__":
    unittest.main()
