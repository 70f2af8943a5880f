"""Promises 5 and 6: states, their lengths, one inside another one, and turns."""

import unittest

from bothwire.circuits import Circuit
from bothwire.errors import NoState, WireError
from bothwire.lengths import length_sum, square
from bothwire.numbers import lowest, mirror, times, turned
from bothwire.states import State, begun
from tests.oracle import (
    NOUGHT, ONE, ROOT, W, eighth_told, is_length_told_rightly, is_told_rightly, length_worth, some_eighths, worth,
)
from tests.stateoracle import (
    inside_worth, length_parts, mixed_state, nought_state, row_state, small_state, state_worths,
)
from tests.things import NO_NUMBERS, NO_STATES

HALF = (1, 0, 0, 0, 2)
BY_ROOT = (1, 0, 0, 0, 1)


def turned_state(state, many):
    """A state, each of whose eighths is turned."""
    return State([turned(one, many) for one in state.eighths()])


class Made(unittest.TestCase):
    def test_of_each_number_of_wires(self):
        for many in range(1, 6):
            eighths = some_eighths(40 + many, 40)[-2 ** many:]
            state = State(eighths)
            self.assertEqual(state.many(), many)
            self.assertIs(state.many().__class__, int)
            self.assertEqual(state.eighths(), eighths)
            self.assertIs(state.eighths().__class__, list)

    def test_nought_everywhere(self):
        for many in range(1, 6):
            state = State([NOUGHT] * 2 ** many)
            self.assertEqual(state.many(), many)
            self.assertEqual(state.eighths(), [NOUGHT] * 2 ** many)

    def test_refuses_other_counts(self):
        for count in (0, 1, 3, 5, 6, 7, 9, 12, 15, 17, 24, 31, 33, 63, 64, 65, 128):
            with self.subTest(count=count), self.assertRaises(NoState):
                State([ONE] * count)

    def test_refuses_what_is_no_list(self):
        for thing in (
            (ONE, NOUGHT), (ONE,) * 4, None, 2, True, "ab", b"ab", {ONE: 1, NOUGHT: 2}, {ONE, NOUGHT},
            {0: ONE, 1: NOUGHT}, iter([ONE, NOUGHT]), range(2), begun(1, 0), State,
        ):
            with self.subTest(thing=thing), self.assertRaises(NoState):
                State(thing)

    def test_refuses_what_is_no_eighth_at_any_place(self):
        for thing in (
            (2, 0, 0, 0, 1), (0, 0, 0, 0, 1), (0, 0, 0, 0, -1), (1, 0, 0, 0, -1), (0, 1, 0, -1, 1), (4, 0, 0, 0, 2),
            [1, 0, 0, 0, 0], [0, 0, 0, 0, 0], (True, 0, 0, 0, 0), (0, False, 0, 0, 0), (1, 0, 0, 0, False),
            (1, 0, 0, 0), (1, 0, 0, 0, 0, 0), (), None, 1, 0, True, "1", ("1", 0, 0, 0, 0), (1, None, 0, 0, 0),
        ):
            for many in range(1, 6):
                for place in {0, 1, 2 ** many - 1}:
                    eighths = [ONE] * 2 ** many
                    eighths[place] = thing
                    with self.subTest(thing=thing, many=many, place=place), self.assertRaises(NoState):
                        State(eighths)

    def test_a_refusal_is_a_wire_error_and_changes_nothing(self):
        handed = [ONE, [1, 0, 0, 0, 0]]
        with self.assertRaises(WireError):
            State(handed)
        self.assertEqual(handed, [ONE, [1, 0, 0, 0, 0]])

    def test_what_was_handed_in_is_free(self):
        handed = [ONE, W, NOUGHT, HALF]
        state = State(handed)
        self.assertEqual(handed, [ONE, W, NOUGHT, HALF])
        handed[0] = NOUGHT
        handed.append(ONE)
        self.assertEqual(state.eighths(), [ONE, W, NOUGHT, HALF])
        self.assertEqual(state.many(), 2)

    def test_what_is_told_is_the_askers_own(self):
        state = State([ONE, W])
        told = state.eighths()
        told[0] = NOUGHT
        told.append(ONE)
        self.assertEqual(state.eighths(), [ONE, W])
        self.assertEqual(state.many(), 1)
        self.assertEqual(state.length(), (2, 0, 0))
        self.assertIsNot(state.eighths(), state.eighths())


class Length(unittest.TestCase):
    def test_told_by_hand(self):
        for eighths, told in (
            ([ONE, NOUGHT], (1, 0, 0)),
            ([NOUGHT, NOUGHT], (0, 0, 0)),
            ([BY_ROOT, BY_ROOT], (1, 0, 0)),
            ([BY_ROOT, NOUGHT], (1, 0, 1)),
            ([HALF, W, NOUGHT, NOUGHT], (5, 0, 2)),
            ([(1, 1, 0, 0, 0), NOUGHT], (2, 1, 0)),
            ([(1, 1, 0, 0, 0), (1, -1, 0, 0, 0)], (4, 0, 0)),
            ([(1, -1, 0, 0, 3), ONE, NOUGHT, ROOT], (26, -1, 3)),
        ):
            self.assertEqual(State(eighths).length(), told, eighths)

    def test_is_the_sum_of_the_squares(self):
        for many in range(1, 6):
            for seed in range(6):
                state = mixed_state(many, 100 * many + seed)
                told = state.length()
                self.assertTrue(is_length_told_rightly(told), told)
                self.assertEqual(length_worth(told), length_parts(state_worths(state)))
                self.assertEqual(told, length_sum([square(one) for one in state.eighths()]))

    def test_at_a_row_and_nought_everywhere(self):
        for many in range(1, 6):
            self.assertEqual(nought_state(many).length(), (0, 0, 0))
            for row in range(2 ** many):
                self.assertEqual(row_state(many, row).length(), (1, 0, 0))

    def test_of_eighths_of_some_hundred_figures(self):
        one = lowest(10 ** 300 + 1, -(10 ** 299), 3, 10 ** 250, 7)
        other = lowest(10 ** 400 + 7, 1, 0, -1, 301)
        state = State([one, other, NOUGHT, one])
        self.assertEqual(length_worth(state.length()), length_parts([worth(part) for part in state.eighths()]))
        self.assertEqual(state.eighths(), [one, other, NOUGHT, one])


class Inside(unittest.TestCase):
    def test_told_by_hand(self):
        for one, other, told in (
            ([ONE, NOUGHT], [ONE, NOUGHT], ONE),
            ([ONE, NOUGHT], [NOUGHT, ONE], NOUGHT),
            ([ONE, NOUGHT], [W, NOUGHT], W),
            ([W, NOUGHT], [ONE, NOUGHT], (0, 0, 0, -1, 0)),
            ([ONE, W], [W, ONE], ROOT),
            ([BY_ROOT, BY_ROOT], [ONE, NOUGHT], BY_ROOT),
            ([BY_ROOT, BY_ROOT], [BY_ROOT, (-1, 0, 0, 0, 1)], NOUGHT),
            ([(1, 2, 0, 0, 0), NOUGHT], [(0, 0, 1, 0, 0), ONE], (0, 2, 1, 0, 0)),
        ):
            told_so = State(one).inside(State(other))
            self.assertEqual(told_so, told, (one, other))

    def test_row_by_row(self):
        for many in range(1, 6):
            for seed in range(4):
                one, other = mixed_state(many, 7 + seed), mixed_state(many, 700 + seed)
                told = one.inside(other)
                self.assertTrue(is_told_rightly(told), told)
                self.assertEqual(worth(told), inside_worth(state_worths(one), state_worths(other)))
                self.assertEqual(other.inside(one), mirror(told))

    def test_of_itself_is_its_length(self):
        for many in range(1, 6):
            state = mixed_state(many, 55)
            p, q = length_worth(state.length())
            self.assertEqual(worth(state.inside(state)), (p, q, 0, -q))

    def test_turns_come_out(self):
        one, other = small_state(3, 1), small_state(3, 2)
        for turn in range(8):
            self.assertEqual(one.inside(turned_state(other, turn)), turned(one.inside(other), turn))
            self.assertEqual(turned_state(one, turn).inside(other), turned(one.inside(other), -turn))

    def test_nought_everywhere(self):
        for many in range(1, 6):
            self.assertEqual(nought_state(many).inside(mixed_state(many, 9)), NOUGHT)
            self.assertEqual(mixed_state(many, 9).inside(nought_state(many)), NOUGHT)
            self.assertEqual(nought_state(many).inside(nought_state(many)), NOUGHT)

    def test_of_rows(self):
        for many in range(1, 6):
            state = mixed_state(many, 19)
            for row in range(2 ** many):
                self.assertEqual(row_state(many, row).inside(state), state.eighths()[row])
                self.assertEqual(state.inside(row_state(many, row)), mirror(state.eighths()[row]))

    def test_of_eighths_of_some_hundred_figures(self):
        one = lowest(10 ** 300 + 1, -(10 ** 299), 3, 10 ** 250, 7)
        self.assertEqual(State([one, NOUGHT]).inside(State([one, ONE])), times(mirror(one), one))

    def test_refuses_what_is_no_state_of_as_many_wires(self):
        for many in range(1, 6):
            for thing in NO_STATES + tuple(nought_state(other) for other in range(1, 6) if other != many):
                with self.subTest(many=many, thing=thing), self.assertRaises(NoState):
                    begun(many, 0).inside(thing)


class TurnTo(unittest.TestCase):
    def test_each_turn(self):
        for many in range(1, 6):
            state = mixed_state(many, 71)
            for turn in range(8):
                with self.subTest(many=many, turn=turn):
                    self.assertEqual(state.turn_to(turned_state(state, turn)), turn)
                    self.assertEqual(turned_state(state, turn).turn_to(state), -turn % 8)

    def test_at_a_row(self):
        for many in range(1, 6):
            for row in (0, 2 ** many - 1):
                for turn in range(8):
                    self.assertEqual(row_state(many, row).turn_to(turned_state(row_state(many, row), turn)), turn)

    def test_to_itself(self):
        for many in range(1, 6):
            state = mixed_state(many, 72)
            self.assertEqual(state.turn_to(state), 0)
            self.assertEqual(state.turn_to(State(state.eighths())), 0)
            self.assertIs(state.turn_to(state).__class__, int)

    def test_least_where_several_do(self):
        for many in range(1, 6):
            self.assertEqual(nought_state(many).turn_to(nought_state(many)), 0)

    def test_none_where_no_turn_does(self):
        for one, other in (
            ([ONE, NOUGHT], [NOUGHT, ONE]),
            ([ONE, NOUGHT], [NOUGHT, NOUGHT]),
            ([NOUGHT, NOUGHT], [ONE, NOUGHT]),
            ([NOUGHT, NOUGHT], [NOUGHT, ONE]),
            ([ONE, ONE], [ONE, W]),
            ([ONE, ONE], [W, ONE]),
            ([ONE, ONE], [W, (0, 0, 1, 0, 0)]),
            ([ONE, NOUGHT], [ROOT, NOUGHT]),
            ([ONE, NOUGHT], [(2, 0, 0, 0, 0), NOUGHT]),
            ([ONE, NOUGHT], [ONE, ONE]),
            ([ONE, NOUGHT], [BY_ROOT, NOUGHT]),
        ):
            self.assertIsNone(State(one).turn_to(State(other)), (one, other))

    def test_each_row_is_asked(self):
        for many in range(1, 6):
            state = State([eighth_told(row + 1, 1, 0, 0, 1) for row in range(2 ** many)])
            for turn in range(8):
                for row in range(2 ** many):
                    eighths = turned_state(state, turn).eighths()
                    eighths[row] = turned(eighths[row], 4)
                    self.assertIsNone(state.turn_to(State(eighths)), (many, turn, row))

    def test_of_eighths_of_some_hundred_figures(self):
        one = lowest(10 ** 300 + 1, -(10 ** 299), 3, 10 ** 250, 7)
        state = State([one, ONE])
        self.assertEqual(state.turn_to(State([turned(one, 3), turned(ONE, 3)])), 3)
        self.assertIsNone(state.turn_to(State([turned(one, 3), ONE])))

    def test_refuses_what_is_no_state_of_as_many_wires(self):
        for many in range(1, 6):
            for thing in NO_STATES + tuple(nought_state(other) for other in range(1, 6) if other != many):
                with self.subTest(many=many, thing=thing), self.assertRaises(NoState):
                    begun(many, 0).turn_to(thing)
        with self.assertRaises(NoState):
            begun(1, 0).turn_to(Circuit(1, []))


class Begun(unittest.TestCase):
    def test_at_each_row(self):
        for many in range(1, 6):
            for row in range(2 ** many):
                state = begun(many, row)
                self.assertIsInstance(state, State)
                self.assertEqual(state.many(), many)
                self.assertEqual(state.eighths(), [ONE if at == row else NOUGHT for at in range(2 ** many)])

    def test_refuses_what_is_no_number_of_wires(self):
        for many in NO_NUMBERS + (0, 6, -1, 7, 10 ** 30, -(10 ** 5000)):
            for row in (0, 1, None):
                with self.subTest(many=many, row=row), self.assertRaises(NoState):
                    begun(many, row)

    def test_refuses_what_is_no_row(self):
        for many in range(1, 6):
            for row in NO_NUMBERS + (-1, -2, 2 ** many, 2 ** many + 1, 10 ** 5000, -(2 ** many)):
                with self.subTest(many=many, row=row), self.assertRaises(NoState):
                    begun(many, row)

    def test_each_is_a_state_of_its_own(self):
        told = begun(2, 1).eighths()
        told[1] = NOUGHT
        self.assertEqual(begun(2, 1).eighths(), [NOUGHT, ONE, NOUGHT, NOUGHT])


if __name__ == "__main__":
    unittest.main()
