"""Promise 28: states, and what comes from them."""

import random
import unittest

from bellnest.states import begin, behind, breaks, come, may_come

from helper import begin_of, broken_in, may_come_in, programs_drawn, turn_of

BOXES = (("a", (5,)), ("b", (7, 8)))
PLAIN = (BOXES, (
    ("main", 0, ((("still", 2), 4), (("is", 0, 0, 1), 0), (("none", 0), 0))),
    ("p", 1, ((("grow", 0, 1), 0), (("tick", 0), 0))),
    ("q", 3, ((("put", 1, (1, 2)), 0),)),
    ("r", 3, ((("still", 1), 0),)),
))


def state(*frames, cells=(5, 7, 8)):
    return (frames, cells)


class StatesTest(unittest.TestCase):

    def test_begin(self):
        self.assertEqual(begin(PLAIN), state((0, 0, 0, ())))
        self.assertEqual(begin(((), (("main", 0, ((("still", 1), 0),)),))), (((0, 0, 0, ()),), ()))
        self.assertEqual([type(part) for part in (begin(PLAIN),) + begin(PLAIN)], [tuple] * 3)

    def test_may_come(self):
        for given, wanted in (
            (state((0, 0, 0, ())), [1, 3]),
            (state((0, 1, 0, ())), [1, 2, 3]),
            (state((0, 3, 0, ())), [1, 2, 3]),
            (state((0, 1, 0, ()), (1, 0, 0, ())), [2, 3]),
            (state((0, 0, 1, ()), (1, 0, 1, (5,))), [3]),
            (state((0, 1, 0, ()), (2, 0, 0, ())), []),
            (state((0, 1, 0, ()), (1, 0, 0, ()), (3, 0, 0, ())), []),
        ):
            with self.subTest(given=given):
                told = may_come(PLAIN, given)
                self.assertEqual(told, wanted)
                self.assertIs(type(told), list)
                told.append(9)
                self.assertEqual(may_come(PLAIN, given), wanted)

    def test_come(self):
        told = come(PLAIN, state((0, 1, 0, ()), cells=(1, 2, 3)), 2)
        self.assertEqual(told, state((0, 1, 0, ()), (2, 0, 0, ()), cells=(1, 2, 3)))
        self.assertEqual([type(part) for part in (told,) + told], [tuple] * 3)
        told = come(PLAIN, state((0, 1, 0, ()), (1, 0, 1, (5,))), 3)
        self.assertEqual(told, state((0, 1, 0, ()), (1, 0, 1, (5,)), (3, 0, 0, ())))

    def test_behind(self):
        for given, wanted in (
            (state((0, 0, 0, ())), state((0, 0, 1, ()))),
            (state((0, 0, 1, ())), state((0, 1, 0, ()))),
            (state((0, 2, 0, ())), state((0, 3, 0, ()))),
            (state((0, 3, 0, ())), None),
            (state((0, 1, 0, ()), (1, 0, 0, ())), state((0, 1, 0, ()), (1, 0, 1, (5,)))),
            (state((0, 1, 0, ()), (1, 0, 1, (5,))), state((0, 1, 0, ()), (1, 1, 0, ()), cells=(6, 7, 8))),
            (state((0, 3, 0, ()), (1, 1, 0, ())), state((0, 3, 0, ()), cells=(6, 7, 8))),
            (state((0, 0, 1, ()), (3, 0, 0, ())), state((0, 0, 1, ()))),
        ):
            with self.subTest(given=given):
                self.assertEqual(behind(PLAIN, given), wanted)

    def test_breaks(self):
        for given, wanted in (
            (state((0, 0, 0, ())), ()),
            (state((0, 1, 0, ())), ((0, 1),)),
            (state((0, 3, 0, ())), ()),
            (state((0, 2, 0, ()), (1, 1, 0, ())), ((0, 2),)),
            (state((0, 2, 0, ()), (2, 0, 0, ())), ()),
        ):
            with self.subTest(given=given):
                told = breaks(PLAIN, given)
                self.assertEqual(told, wanted)
                self.assertIs(type(told), tuple)

    def test_drawn_walks(self):
        ends = 0
        for seed, program in enumerate(programs_drawn(range(300))):
            rng = random.Random(seed)
            now = begin(program)
            self.assertEqual(now, begin_of(program))
            for step in range(40):
                bells = [bell for bell in range(1, len(program[1])) if may_come_in(program, now[0], bell)]
                self.assertEqual(may_come(program, now), bells)
                self.assertEqual(breaks(program, now), broken_in(program, *now))
                following = behind(program, now)
                self.assertEqual(following, turn_of(program, *now))
                for bell in bells:
                    self.assertEqual(come(program, now, bell), (now[0] + ((bell, 0, 0, ()),), now[1]))
                ends += following is None
                if bells and (following is None or rng.random() < 0.2):
                    now = come(program, now, rng.choice(bells))
                elif following is not None:
                    now = following
                else:
                    break
        self.assertGreater(ends, 50)

    def test_arguments_by_name(self):
        now = begin(program=PLAIN)
        self.assertEqual(may_come(program=PLAIN, state=now), [1, 3])
        self.assertEqual(come(program=PLAIN, state=now, bell=1), state((0, 0, 0, ()), (1, 0, 0, ())))
        self.assertEqual(behind(program=PLAIN, state=now), state((0, 0, 1, ())))
        self.assertEqual(breaks(program=PLAIN, state=now), ())


if __name__ == "__main__":
    unittest.main()
