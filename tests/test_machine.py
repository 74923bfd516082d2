"""Promises 3, 14, 15, 17, 18 and 20: the machine, turn by turn."""

import random
import unittest

from bellnest.errors import BellError, NoBell
from bellnest.machine import Machine

from helper import Model, programs_drawn, ringings_drawn

BOXES = (("a", (5,)), ("b", (7, 8)))
A, B = 0, 1

# main: two stills and a tick; p of rank 2, q and r of rank 5; main's place 1 is shut to r
PLAIN = (BOXES, (
    ("main", 0, ((("still", 2), 0), (("still", 1), 8), (("tick", A), 0))),
    ("p", 2, ((("put", B, (1, 2)), 0),)),
    ("q", 5, ((("tick", A), 0), (("still", 1), 0))),
    ("r", 5, ((("grow", A, 10), 0),)),
))
P, Q, R = 2, 4, 8


def seen(machine):
    return (machine.flags(), machine.pile(), machine.cells(), machine.idle())


class MachineTest(unittest.TestCase):

    def follow(self, program, turns):
        """turns: of each turn the word, the event; and, where they are told, flags, pile and cells behind it."""
        machine = Machine(program)
        for number, (word, event, *after) in enumerate(turns):
            with self.subTest(number=number, word=word):
                self.assertEqual(machine.turn(word), event)
                told = (machine.flags(), machine.pile(), machine.cells())
                self.assertEqual(told[:len(after)], tuple(after))
        return machine

    def test_the_begin(self):
        machine = Machine(PLAIN)
        self.assertEqual(seen(machine), (0, ((0, 0, 0, ()),), (5, 7, 8), False))
        bare = Machine(((), (("main", 0, ((("still", 1), 0),)),)))
        self.assertEqual(seen(bare), (0, ((0, 0, 0, ()),), (), False))

    def test_without_ringings(self):
        machine = self.follow(PLAIN, [
            (0, ("turn", 0, 0, 0, ()), 0, ((0, 0, 1, ()),), (5, 7, 8)),
            (0, ("turn", 0, 0, 1, ()), 0, ((0, 1, 0, ()),), (5, 7, 8)),
            (0, ("turn", 0, 1, 0, ()), 0, ((0, 2, 0, ()),), (5, 7, 8)),
            (0, ("turn", 0, 2, 0, ()), 0, ((0, 3, 0, ()),), (6, 7, 8)),
            (0, ("idle",), 0, ((0, 3, 0, ()),), (6, 7, 8)),
            (0, ("idle",), 0, ((0, 3, 0, ()),), (6, 7, 8)),
        ])
        self.assertIs(machine.idle(), True)

    def test_a_bell_enters_at_once_and_takes_a_turn(self):
        self.follow(PLAIN, [
            (P, ("enter", 1), 0, ((0, 0, 0, ()), (1, 0, 0, ())), (5, 7, 8)),
            (0, ("turn", 1, 0, 0, ()), 0, ((0, 0, 0, ()), (1, 0, 1, ())), (5, 1, 8)),
            (0, ("turn", 1, 0, 1, ()), 0, ((0, 0, 0, ()),), (5, 1, 2)),
            (0, ("turn", 0, 0, 0, ()), 0, ((0, 0, 1, ()),), (5, 1, 2)),
        ])

    def test_a_bell_breaks_in_on_a_bell_of_lower_rank(self):
        self.follow(PLAIN, [
            (0, ("turn", 0, 0, 0, ())),
            (P, ("enter", 1), 0, ((0, 0, 1, ()), (1, 0, 0, ()))),
            (0, ("turn", 1, 0, 0, ())),
            (Q, ("enter", 2), 0, ((0, 0, 1, ()), (1, 0, 1, ()), (2, 0, 0, ()))),
            # p lies beneath and q is no lower than r: their flags stay
            (P | R, ("turn", 2, 0, 0, ()), P | R, ((0, 0, 1, ()), (1, 0, 1, ()), (2, 1, 0, ())), (6, 1, 8)),
            (0, ("turn", 2, 1, 0, ()), P | R, ((0, 0, 1, ()), (1, 0, 1, ()))),
            (0, ("enter", 3), P, ((0, 0, 1, ()), (1, 0, 1, ()), (3, 0, 0, ()))),
            (0, ("turn", 3, 0, 0, ()), P, ((0, 0, 1, ()), (1, 0, 1, ()), (3, 0, 1, (6,)))),
            (0, ("turn", 3, 0, 1, ()), P, ((0, 0, 1, ()), (1, 0, 1, ())), (16, 1, 8)),
            (0, ("turn", 1, 0, 1, ()), P, ((0, 0, 1, ()),), (16, 1, 2)),
            (0, ("enter", 1), 0, ((0, 0, 1, ()), (1, 0, 0, ()))),
        ])

    def test_two_bells_at_once_the_best_first(self):
        self.follow(PLAIN, [
            (P | Q | R, ("enter", 2), P | R),
            (0, ("turn", 2, 0, 0, ()), P | R),
            (0, ("turn", 2, 1, 0, ()), P | R),
            (0, ("enter", 3), P),
            (0, ("turn", 3, 0, 0, ()), P),
            (0, ("turn", 3, 0, 1, ()), P),
            (0, ("enter", 1), 0),
            (0, ("turn", 1, 0, 0, ()), 0),
        ])

    def test_a_bell_that_rings_while_it_lies_on_the_pile_and_while_its_flag_is_set(self):
        self.follow(PLAIN, [
            (Q, ("enter", 2), 0),
            (Q, ("turn", 2, 0, 0, ()), Q),
            (Q, ("turn", 2, 1, 0, ()), Q, ((0, 0, 0, ()),)),
            (0, ("enter", 2), 0),
            (0, ("turn", 2, 0, 0, ()), 0),
            (0, ("turn", 2, 1, 0, ()), 0),
            (0, ("turn", 0, 0, 0, ()), 0),
        ])

    def test_a_bell_that_rings_as_it_could_enter_again(self):
        self.follow(PLAIN, [
            (Q | R, ("enter", 2), R),
            (R, ("turn", 2, 0, 0, ()), R),
            (R, ("turn", 2, 1, 0, ()), R),
            (R, ("enter", 3), 0),
            (0, ("turn", 3, 0, 0, ()), 0),
            (0, ("turn", 3, 0, 1, ()), 0),
            (0, ("turn", 0, 0, 0, ()), 0),
        ])

    def test_a_shut_place(self):
        self.follow(PLAIN, [
            (0, ("turn", 0, 0, 0, ())),
            (0, ("turn", 0, 0, 1, ())),
            # r waits for main to go on; p may enter, and above p r is still shut out
            (R | P, ("enter", 1), R, ((0, 1, 0, ()), (1, 0, 0, ()))),
            (0, ("turn", 1, 0, 0, ()), R),
            (Q, ("enter", 2), R),
            (0, ("turn", 2, 0, 0, ()), R),
            (0, ("turn", 2, 1, 0, ()), R),
            (0, ("turn", 1, 0, 1, ()), R),
            (0, ("turn", 0, 1, 0, ()), R, ((0, 2, 0, ()),)),
            (0, ("enter", 3), 0),
        ])

    def test_a_lower_bell_that_may_enter_is_ahead_of_a_higher_one_that_may_not(self):
        program = (BOXES, (("main", 0, ((("still", 1), 4),)), ("p", 1, ((("still", 1), 0),)), ("q", 9, ((("tick", A), 0),))))
        self.follow(program, [
            (6, ("enter", 1), 4),
            (0, ("turn", 1, 0, 0, ()), 4),
            (0, ("turn", 0, 0, 0, ()), 4, ((0, 1, 0, ()),)),
            (0, ("enter", 2), 0),
            (0, ("turn", 2, 0, 0, ()), 0, ((0, 1, 0, ()),), (6, 7, 8)),
            (0, ("idle",), 0),
        ])

    def test_bells_at_mains_end(self):
        machine = self.follow(PLAIN, [(0, ("turn", 0, 0, 0, ())), (0, ("turn", 0, 0, 1, ())), (0, ("turn", 0, 1, 0, ())),
                                      (0, ("turn", 0, 2, 0, ())), (0, ("idle",))])
        self.assertIs(machine.idle(), True)
        self.assertEqual(machine.turn(R), ("enter", 3))
        self.assertEqual(seen(machine), (0, ((0, 3, 0, ()), (3, 0, 0, ())), (6, 7, 8), False))
        self.assertEqual(machine.turn(P), ("turn", 3, 0, 0, ()))
        self.assertEqual(machine.turn(), ("turn", 3, 0, 1, ()))
        self.assertEqual(seen(machine), (P, ((0, 3, 0, ()),), (16, 7, 8), False))
        self.assertEqual(machine.turn(), ("enter", 1))
        self.assertEqual(machine.turn(), ("turn", 1, 0, 0, ()))
        self.assertEqual(machine.turn(), ("turn", 1, 0, 1, ()))
        self.assertEqual(seen(machine), (0, ((0, 3, 0, ()),), (16, 1, 2), True))
        self.assertEqual(machine.turn(), ("idle",))

    def test_a_grow_that_is_broken_in_upon_loses_what_came_between(self):
        program = (BOXES, (("main", 0, ((("grow", A, 1), 0),)), ("p", 1, ((("grow", A, 10), 0),))))
        self.follow(program, [
            (0, ("turn", 0, 0, 0, ()), 0, ((0, 0, 1, (5,)),)),
            (2, ("enter", 1), 0, ((0, 0, 1, (5,)), (1, 0, 0, ()))),
            (0, ("turn", 1, 0, 0, ()), 0, ((0, 0, 1, (5,)), (1, 0, 1, (5,)))),
            (0, ("turn", 1, 0, 1, ()), 0, ((0, 0, 1, (5,)),), (15, 7, 8)),
            (0, ("turn", 0, 0, 1, ()), 0, ((0, 1, 0, ()),), (6, 7, 8)),
        ])

    def test_an_anew_that_goes_back(self):
        boxes = (("x", (0,)), ("y", (1,)), ("t", (3,)))
        program = (boxes, (("main", 0, ((("anew", 0, 1, 2), 0),)), ("p", 1, ((("put", 1, (9,)), 0), (("tick", 2), 0)))))
        self.follow(program, [
            (0, ("turn", 0, 0, 0, ()), 0, ((0, 0, 1, (3,)),)),
            (0, ("turn", 0, 0, 1, ()), 0, ((0, 0, 2, (3, 1)),)),
            (2, ("enter", 1)),
            (0, ("turn", 1, 0, 0, ()), 0, ((0, 0, 2, (3, 1)), (1, 1, 0, ())), (0, 9, 3)),
            (0, ("turn", 1, 1, 0, ()), 0, ((0, 0, 2, (3, 1)),), (0, 9, 4)),
            (0, ("turn", 0, 0, 2, ()), 0, ((0, 0, 0, ()),), (0, 9, 4)),
            (0, ("turn", 0, 0, 0, ()), 0, ((0, 0, 1, (4,)),)),
            (0, ("turn", 0, 0, 1, ()), 0, ((0, 0, 2, (4, 9)),)),
            (0, ("turn", 0, 0, 2, ()), 0, ((0, 0, 3, (4, 9)),)),
            (0, ("turn", 0, 0, 3, ()), 0, ((0, 1, 0, ()),), (9, 9, 4)),
            (0, ("idle",)),
        ])

    def test_events_tell_broken_promises(self):
        program = (BOXES, (
            ("main", 0, ((("still", 2), 0), (("none", A), 0), (("is", A, A, 1), 0))),
            ("p", 1, ((("none", A), 0), (("tick", A), 0))),
            ("q", 2, ((("tick", A), 0), (("is", A, A, 3), 0))),
        ))
        self.follow(program, [
            (0, ("turn", 0, 0, 0, ())),
            (2, ("enter", 1)),
            (4, ("enter", 2)),
            (0, ("turn", 2, 0, 0, ((0, 1), (1, 0)))),
            (0, ("turn", 2, 1, 0, ((0, 1), (1, 0), (2, 1)))),
            (0, ("turn", 1, 0, 0, ())),
            (0, ("turn", 1, 1, 0, ((0, 1),))),
            (0, ("turn", 0, 0, 1, ())),
            (0, ("turn", 0, 1, 0, ())),
            (0, ("turn", 0, 2, 0, ((0, 2),))),
            (0, ("idle",)),
        ])

    def test_a_turn_without_a_word(self):
        machine = Machine(PLAIN)
        self.assertEqual(machine.turn(), ("turn", 0, 0, 0, ()))
        self.assertEqual(machine.turn(word=P), ("enter", 1))
        self.assertEqual(machine.turn(), ("turn", 1, 0, 0, ()))

    def test_kinds_told(self):
        machine = Machine(PLAIN)
        for word in (0, P, 0, Q, R | P, 0, 0, 0, 0, 0):
            self.assertIs(type(machine.turn(word)), tuple)
            told = (machine.flags(), machine.pile(), machine.cells(), machine.idle())
            self.assertEqual([type(part) for part in told], [int, tuple, tuple, bool])

    def test_idle(self):
        machine = Machine(((), (("main", 0, ((("still", 1), 0),)), ("p", 1, ((("still", 1), 0),)))))
        self.assertIs(machine.idle(), False)
        machine.turn()
        self.assertIs(machine.idle(), True)
        machine.turn(2)
        self.assertIs(machine.idle(), False)
        machine.turn(2)
        # main is at its end, but the flag is set again
        self.assertEqual((machine.pile(), machine.flags(), machine.idle()), (((0, 1, 0, ()),), 2, False))
        machine.turn()
        machine.turn()
        self.assertIs(machine.idle(), True)

    def test_two_machines_beside_one_another(self):
        first, second = Machine(PLAIN), Machine(PLAIN)
        first.turn(P | Q)
        self.assertEqual(seen(second), (0, ((0, 0, 0, ()),), (5, 7, 8), False))
        second.turn()
        second.turn(R)
        self.assertEqual(first.flags(), P)
        self.assertEqual(second.pile(), ((0, 0, 1, ()), (3, 0, 0, ())))
        self.assertEqual(first.pile(), ((0, 0, 0, ()), (2, 0, 0, ())))

    def test_drawn_turns(self):
        for seed, program in enumerate(programs_drawn(range(300))):
            machine, model = Machine(program), Model(program)
            for word in ringings_drawn(random.Random(seed), program, 60, 0.15):
                self.assertEqual(machine.turn(word), model.turn(word))
                self.assertEqual(seen(machine), (model.flags, model.pile, model.cells, model.idle()))


class RefusedWordsTest(unittest.TestCase):

    BAD = (1, 3, 5, 9, 15, 16, 17, 18, 32, 64, 1 << 40, -1, -2, -8, -(1 << 40))

    def test_a_refused_word_changes_nothing(self):
        for ahead in ([], [0], [P], [P, 0, Q | R], [0, 0, R], [0, 0, R | P], [0, 0, 0, 0], [0, 0, 0, 0, 0, P | Q]):
            for bad in self.BAD:
                machine, other = Machine(PLAIN), Machine(PLAIN)
                for word in ahead:
                    machine.turn(word)
                    other.turn(word)
                with self.subTest(ahead=ahead, bad=bad):
                    with self.assertRaises(NoBell) as caught:
                        machine.turn(bad)
                    self.assertEqual(caught.exception.word, bad)
                    self.assertIsInstance(caught.exception, BellError)
                    self.assertEqual(seen(machine), seen(other))
                    for word in (0, Q, 0, 0, R, 0, 0, 0, 0):
                        self.assertEqual(machine.turn(word), other.turn(word))
                        self.assertEqual(seen(machine), seen(other))

    def test_words_of_all_numbers_of_bells(self):
        for bells in range(7):
            rows = tuple((name, 1, ((("still", 1), 0),)) for name in "abcdef"[:bells])
            program = ((), (("main", 0, ((("still", 1), 0),)),) + rows)
            for word in range(-4, 300):
                good = word >= 0 and word % 2 == 0 and word < 2 ** (bells + 1)
                machine = Machine(program)
                if good:
                    machine.turn(word)
                    continue
                with self.assertRaises(NoBell) as caught:
                    machine.turn(word)
                self.assertEqual(caught.exception.word, word)


if __name__ == "__main__":
    unittest.main()
