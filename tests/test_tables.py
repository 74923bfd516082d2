"""Promise 29: the table of all states that come with at most so many enterings."""

import random
import unittest

from bellnest.errors import BellError, TooMany
from bellnest.tables import table

from helper import begin_of, may_come_in, prices_of, programs_drawn, turn_of


def stills(turns):
    """Deeds of just so many turns that do nothing."""
    deeds = [("still", 9)] * (turns // 9) + ([("still", turns % 9)] if turns % 9 else [])
    return tuple((deed, 0) for deed in deeds)


def waiting(main, *bells):
    """main and bells of ranks 1, 2, .. that take so many turns each."""
    rows = [("main", 0, stills(main))] + [("abcdef"[k], k + 1, stills(turns)) for k, turns in enumerate(bells)]
    return ((), tuple(rows))


BACK = ((("x", (0,)), ("y", (1,)), ("t", (0,))), (
    ("main", 0, ((("anew", 0, 1, 2), 0),)),
    ("p", 1, ((("tick", 2), 0),)),
))


class TableTest(unittest.TestCase):

    def checked(self, program, many, most=2000):
        """The table, sentence by sentence."""
        told = table(program, many, most)
        self.assertIs(type(told), list)
        for row in told:
            self.assertEqual([type(part) for part in (row,) + row], [tuple, tuple, int])
        self.assertEqual(told[0], (begin_of(program), 0))
        prices = dict(told)
        self.assertEqual(len(prices), len(told))
        ahead = {}
        for number, (state, price) in enumerate(told):
            # from what stands ahead this comes by a turn at the same price or by an entering at one higher
            if number > 0:
                self.assertIn(price, ahead.get(state, ()))
            self.assertLessEqual(price, many)
            following = turn_of(program, *state)
            if following is not None:
                self.assertLessEqual(prices[following], price)
                ahead.setdefault(following, set()).add(price)
            for bell in range(1, len(program[1])):
                if may_come_in(program, state[0], bell):
                    entered = (state[0] + ((bell, 0, 0, ()),), state[1])
                    ahead.setdefault(entered, set()).add(price + 1)
                    if price < many:
                        self.assertLessEqual(prices[entered], price + 1)
        self.assertEqual(prices, prices_of(program, many))
        return told

    def test_no_enterings(self):
        self.assertEqual(table(waiting(2), 0), [
            ((((0, 0, 0, ()),), ()), 0), ((((0, 0, 1, ()),), ()), 0), ((((0, 1, 0, ()),), ()), 0)])
        self.assertEqual(table(waiting(1, 5, 5), 0), [((((0, 0, 0, ()),), ()), 0), ((((0, 1, 0, ()),), ()), 0)])

    def test_one_entering(self):
        told = self.checked(waiting(1, 1), 1)
        at, end, bell = (0, 0, 0, ()), (0, 1, 0, ()), (1, 0, 0, ())
        self.assertEqual(sorted(told), sorted([
            (((at,), ()), 0), (((end,), ()), 0), (((at, bell), ()), 1), (((end, bell), ()), 1)]))

    def test_the_fewest_enterings_are_told(self):
        # what two bells make the one bell makes alone
        boxes = (("a", (0,)),)
        program = (boxes, (
            ("main", 0, ((("still", 1), 0),)),
            ("p", 1, ((("tick", 0), 0),)),
            ("q", 1, ((("put", 0, (2,)), 0),)),
        ))
        for many in range(5):
            told = dict(self.checked(program, many))
            self.assertEqual(told.get((((0, 0, 0, ()),), (2,))), 1 if many >= 1 else None)
            self.assertEqual(told.get((((0, 0, 0, ()),), (1,))), 1 if many >= 1 else None)
            self.assertEqual(told.get((((0, 0, 0, ()),), (3,))), 2 if many >= 2 else None)

    def test_every_number_of_enterings(self):
        program = ((("a", (0,)),), (("main", 0, ((("tick", 0), 0),)), ("p", 1, ((("tick", 0), 0),))))
        for many in range(10):
            told = self.checked(program, many)
            self.assertEqual(max(price for state, price in told), many)

    def test_an_anew_that_goes_back(self):
        for many in range(5):
            told = self.checked(BACK, many)
            back = [state for state, price in told if state[0] == ((0, 0, 0, ()),)]
            self.assertEqual(len(back), many + 1)

    def test_broken_promises_stop_nothing(self):
        program = ((("a", (0,)),), (
            ("main", 0, ((("is", 0, 0, 1), 0), (("none", 0), 0), (("most", 0, 0, -1), 0))),
            ("p", 1, ((("tick", 0), 0),)),
        ))
        for many in range(4):
            self.checked(program, many)
        self.assertEqual(len(table(program, 0)), 4)

    def test_drawn_programs(self):
        for seed, program in enumerate(programs_drawn(range(250), bells=3, places=3)):
            many = random.Random(seed).randint(0, 3)
            if len(prices_of(program, many)) <= 600:
                self.checked(program, many)

    def test_told_lists_are_the_askers_own(self):
        told = table(BACK, 2)
        wanted = sorted(told)
        told.clear()
        self.assertEqual(sorted(table(BACK, 2)), wanted)

    def test_arguments_by_name(self):
        self.assertEqual(len(table(program=waiting(2), many=0, most=3)), 3)


class TooManyTest(unittest.TestCase):

    def refuse(self, program, many, most):
        with self.subTest(many=many, most=most):
            with self.assertRaises(TooMany) as caught:
                table(program, many, most)
            self.assertEqual(caught.exception.most, most)
            self.assertIsInstance(caught.exception, BellError)

    def test_just_where_more_come(self):
        for program, many, count in (
            (waiting(1), 0, 2), (waiting(9), 0, 10), (waiting(5, 2), 1, 18), (waiting(5, 2), 4, 18), (BACK, 0, 5),
            (waiting(3, 2, 2), 2, 36), (BACK, 1, None), (BACK, 3, None),
        ):
            count = count or len(prices_of(program, many))
            self.assertEqual(len(prices_of(program, many)), count)
            self.assertEqual(len(table(program, many, count)), count)
            self.assertEqual(len(table(program, many, count + 1)), count)
            for most in sorted({count - 1, count // 2 or 1, 1}):
                self.refuse(program, many, most)

    def test_most_left_out(self):
        self.assertEqual(len(table(waiting(99, 2), 1)), 300)
        self.assertEqual(len(table(waiting(22, 12), 1)), 299)
        with self.assertRaises(TooMany) as caught:
            table(waiting(42, 6), 1)
        self.assertEqual(caught.exception.most, 300)
        self.assertEqual(len(table(waiting(42, 6), 1, 301)), 301)
        self.assertEqual(len(table(waiting(42, 6), 0)), 43)

    def test_far_too_many(self):
        rows = [("main", 0, tuple((("grow", 0, 1), 0) for place in range(12)))]
        rows += [("abcdef"[k], k + 1, tuple((("grow", 0, 1), 0) for place in range(12))) for k in range(6)]
        program = ((("a", (0, 0)),), tuple(rows))
        for most in (1, 2, 299, 300, 301, 2000):
            self.refuse(program, 9, most)

    def test_drawn_programs(self):
        for seed, program in enumerate(programs_drawn(range(120), bells=3, places=3)):
            many = random.Random(seed).randint(0, 2)
            count = len(prices_of(program, many))
            if count <= 600:
                self.assertEqual(len(table(program, many, count)), count)
                self.refuse(program, many, count - 1)


if __name__ == "__main__":
    unittest.main()
