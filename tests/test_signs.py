"""Promises 13 and 14: sign rows, what they do, whether they go together, and their products."""

import random
import unittest

from bothwire.circuits import Circuit
from bothwire.errors import NoState, NoTable
from bothwire.gates import X, Y, Z
from bothwire.numbers import turned
from bothwire.signs import done, goes_with, is_sign_row, product
from bothwire.states import State, begun
from tests.oracle import NOUGHT, ONE, is_told_rightly
from tests.signoracle import done_worths, each_sign_row, some_sign_row, some_sign_rows, turned_worths
from tests.stateoracle import mixed_state, nought_state, row_state, small_state, state_worths
from tests.things import NO_NUMBERS, NO_STATES, Odd

NO_SIGN_ROWS = (
    (), (0,), (0, (0,)), (0, (0,), (0,), (0,)), (0, (0,), ()), (0, (), ()), (0, (), (0,)), (0, (0, 0), (0,)), (0, (0,), (0, 0)),
    [0, (0,), (0,)], (0, [0], (0,)), (0, (0,), [0]), (0, [0], [0]), (2, (0,), (0,)), (-1, (0,), (0,)), (0, (2,), (0,)),
    (0, (0,), (2,)), (0, (-1,), (0,)), (True, (0,), (0,)), (False, (0,), (0,)), (0, (True,), (0,)), (0, (0,), (False,)),
    (0, (0, True), (0, 0)), (0, (0,), (None,)), (None, (0,), (0,)), ("0", (0,), (0,)), (0, ("0",), (0,)), (0, "0", "0"),
    (0, 0, 0), (0, (0,), 0), (0, (0,) * 6, (0,) * 6), (1, (1,) * 6, (0,) * 6), (0, (0,) * 5, (0,) * 6), ((0,), (0,), (0,)),
    (0, ((0,),), ((0,),)), None, 0, 1, True, "+x", "", b"", {}, {0: 0, 1: (0,), 2: (0,)}, {0, 1, 2}, Odd(), Odd, X(0), begun(1, 0),
)


class IsSignRow(unittest.TestCase):
    def test_of_sign_rows(self):
        for many in (1, 2, 3):
            for row in each_sign_row(many):
                self.assertIs(is_sign_row(row), True, row)
        for many in (4, 5):
            for row in some_sign_rows(1, many, 300):
                self.assertIs(is_sign_row(row), True, row)
            self.assertIs(is_sign_row((1, (1,) * many, (1,) * many)), True)

    def test_of_whatever_thing(self):
        for thing in NO_SIGN_ROWS:
            self.assertIs(is_sign_row(thing), False, thing)

    def test_what_is_no_bit_at_any_place(self):
        for many in range(1, 6):
            for thing in NO_NUMBERS + (2, -1, 10 ** 30):
                for place in range(many):
                    bits = (0,) * place + (thing,) + (1,) * (many - place - 1)
                    self.assertIs(is_sign_row((0, bits, (0,) * many)), False, bits)
                    self.assertIs(is_sign_row((1, (1,) * many, bits)), False, bits)
                self.assertIs(is_sign_row((thing, (0,) * many, (1,) * many)), False, thing)

    def test_unlike_lengths(self):
        for xs in range(8):
            for zs in range(8):
                self.assertIs(is_sign_row((0, (1,) * xs, (0,) * zs)), xs == zs and 1 <= xs <= 5, (xs, zs))


class Done(unittest.TestCase):
    def assert_done(self, row, state):
        """It does what the gates x, y and z do, wire by wire, and the turn."""
        handed = state.eighths()
        found = done(row, state)
        self.assertIsInstance(found, State)
        self.assertEqual(found.many(), state.many())
        self.assertEqual(state_worths(found), done_worths(row, state_worths(state)), row)
        self.assertTrue(all(is_told_rightly(one) for one in found.eighths()))
        self.assertEqual(state.eighths(), handed)

    def test_each_row_of_few_wires(self):
        for many in (1, 2, 3):
            state = small_state(many, 600 + many)
            for row in each_sign_row(many):
                self.assert_done(row, state)

    def test_rows_of_many_wires(self):
        for many in (4, 5):
            state = mixed_state(many, 610 + many)
            for row in some_sign_rows(2, many, 60):
                self.assert_done(row, state)

    def test_told_by_hand(self):
        a, b = (1, 2, 0, 0, 0), (0, 0, 5, 0, 1)
        one = State([a, b])
        for row, told in (
            ((0, (0,), (0,)), [a, b]),
            ((1, (0,), (0,)), [turned(a, 4), turned(b, 4)]),
            ((0, (1,), (0,)), [b, a]),
            ((1, (1,), (0,)), [turned(b, 4), turned(a, 4)]),
            ((0, (0,), (1,)), [a, turned(b, 4)]),
            ((1, (0,), (1,)), [turned(a, 4), b]),
            ((0, (1,), (1,)), [turned(b, 6), turned(a, 2)]),
            ((1, (1,), (1,)), [turned(b, 2), turned(a, 6)]),
        ):
            self.assertEqual(done(row, one).eighths(), told, row)
        self.assertEqual(done((0, (1, 0), (0, 1)), begun(2, 1)).eighths(), [NOUGHT, NOUGHT, NOUGHT, (-1, 0, 0, 0, 0)])
        self.assertEqual(done((0, (0, 1), (0, 0)), begun(2, 2)).eighths(), row_state(2, 3).eighths())

    def test_is_a_gate_where_it_does_one_thing(self):
        for many in range(1, 6):
            state = mixed_state(many, 620 + many)
            for wire in range(many):
                unit = tuple(int(at == wire) for at in range(many))
                none = (0,) * many
                for row, gate in (((0, unit, none), X(wire)), ((0, unit, unit), Y(wire)), ((0, none, unit), Z(wire))):
                    self.assertEqual(done(row, state).eighths(), gate.on(state).eighths())

    def test_twice_is_nothing(self):
        for many in range(1, 6):
            state = mixed_state(many, 630 + many)
            for row in some_sign_rows(3, many, 20):
                self.assertEqual(done(row, done(row, state)).eighths(), state.eighths())
                self.assertEqual(done(row, state).length(), state.length())

    def test_nought_everywhere(self):
        for many in range(1, 6):
            for row in some_sign_rows(4, many, 10):
                self.assertEqual(done(row, nought_state(many)).eighths(), [NOUGHT] * 2 ** many)

    def test_refuses_what_is_no_sign_row_first(self):
        for thing in NO_SIGN_ROWS:
            for state in (begun(1, 0), begun(2, 0), None, thing):
                with self.subTest(thing=thing, state=state), self.assertRaises(NoTable):
                    done(thing, state)

    def test_refuses_what_is_no_state_of_as_many_wires(self):
        for many in range(1, 6):
            row = (0, (1,) * many, (0,) * many)
            others = tuple(begun(other, 0) for other in range(1, 6) if other != many)
            for thing in NO_STATES + others + (row, Circuit(many, [])):
                with self.subTest(many=many, thing=thing), self.assertRaises(NoState):
                    done(row, thing)


class GoesWith(unittest.TestCase):
    def assert_goes_with(self, one, other, worths):
        """They go together just where doing both in either order is the same."""
        same = done_worths(one, done_worths(other, worths)) == done_worths(other, done_worths(one, worths))
        self.assertIs(goes_with(one, other), same, (one, other))

    def test_by_doing_them(self):
        for many in (1, 2):
            worths = state_worths(State([(1 + row, 1, 0, 0, 0) for row in range(2 ** many)]))
            for one in each_sign_row(many):
                for other in each_sign_row(many):
                    self.assert_goes_with(one, other, worths)
        for many in (3, 4, 5):
            worths = state_worths(State([(1 + row, 1, 0, 0, 0) for row in range(2 ** many)]))
            rows = some_sign_rows(5, many, 12)
            for one in rows:
                for other in rows:
                    self.assert_goes_with(one, other, worths)

    def test_told_by_hand(self):
        x, y, z, none = (0, (1,), (0,)), (0, (1,), (1,)), (0, (0,), (1,)), (0, (0,), (0,))
        for one in (x, y, z, none):
            for other in (x, y, z, none):
                self.assertIs(goes_with(one, other), one == other or none in (one, other))
        self.assertIs(goes_with((0, (1, 1), (0, 0)), (0, (0, 0), (1, 1))), True)
        self.assertIs(goes_with((0, (1, 1), (0, 0)), (0, (0, 0), (0, 1))), False)
        self.assertIs(goes_with((0, (1, 0), (0, 1)), (0, (0, 1), (1, 0))), True)
        self.assertIs(goes_with((1, (1, 0), (0, 0)), (0, (1, 0), (0, 1))), True)


class Product(unittest.TestCase):
    def assert_product(self, one, other, worths):
        """Doing the other, then the one, is doing the row of the pair, times w ** (2 m)."""
        found = product(one, other)
        self.assertIs(found.__class__, tuple)
        m, row = found
        self.assertIs(m.__class__, int)
        self.assertIn(m, range(4))
        self.assertIs(is_sign_row(row), True)
        self.assertEqual(row[0], 0)
        self.assertEqual(len(row[1]), len(one[1]))
        both = done_worths(one, done_worths(other, worths))
        self.assertEqual(both, turned_worths(done_worths(row, worths), 2 * m), (one, other))
        if goes_with(one, other):
            self.assertIn(m, (0, 2))
        else:
            self.assertIn(m, (1, 3))

    def test_by_doing_them(self):
        for many in (1, 2):
            worths = state_worths(State([(1 + row, 1, 0, 0, 0) for row in range(2 ** many)]))
            for one in each_sign_row(many):
                for other in each_sign_row(many):
                    self.assert_product(one, other, worths)
        for many in (3, 4, 5):
            worths = state_worths(State([(1 + row, 1, 0, 0, 0) for row in range(2 ** many)]))
            rows = some_sign_rows(6, many, 14)
            for one in rows:
                for other in rows:
                    self.assert_product(one, other, worths)

    def test_told_by_hand(self):
        x, y, z, none = (0, (1,), (0,)), (0, (1,), (1,)), (0, (0,), (1,)), (0, (0,), (0,))
        for one, other, told in (
            (x, x, (0, none)), (y, y, (0, none)), (z, z, (0, none)), (none, none, (0, none)),
            (x, y, (1, z)), (y, z, (1, x)), (z, x, (1, y)),
            (y, x, (3, z)), (z, y, (3, x)), (x, z, (3, y)),
            (x, none, (0, x)), (none, y, (0, y)),
            ((1, (1,), (0,)), x, (2, none)), (x, (1, (1,), (0,)), (2, none)),
            ((1, (1,), (0,)), (1, (1,), (0,)), (0, none)), ((1, (0,), (0,)), (1, (0,), (0,)), (0, none)),
            ((1, (0,), (0,)), none, (2, none)), ((1, (1,), (0,)), y, (3, z)), ((1, (1,), (0,)), (1, (1,), (1,)), (1, z)),
            ((0, (1, 1), (0, 0)), (0, (0, 0), (1, 1)), (2, (0, (1, 1), (1, 1)))),
            ((0, (1, 0), (0, 1)), (0, (0, 1), (1, 0)), (0, (0, (1, 1), (1, 1)))),
        ):
            self.assertEqual(product(one, other), told, (one, other))

    def test_of_a_row_with_itself(self):
        for many in range(1, 6):
            none = (0,) * many
            for row in some_sign_rows(7, many, 40):
                self.assertEqual(product(row, row), (0, (0, none, none)))

    def test_in_either_order(self):
        chance = random.Random(8)
        for many in range(1, 6):
            for _ in range(60):
                one, other = some_sign_row(chance, many), some_sign_row(chance, many)
                (m, row), (k, again) = product(one, other), product(other, one)
                self.assertEqual(row, again)
                self.assertEqual(m == k, goes_with(one, other))


class RefusedPairs(unittest.TestCase):
    def test_what_is_no_sign_row(self):
        for ask in (goes_with, product):
            for thing in NO_SIGN_ROWS:
                for row in ((0, (0,), (0,)), (0, (1, 0), (0, 0)), thing):
                    with self.subTest(ask=ask, thing=thing):
                        with self.assertRaises(NoTable):
                            ask(thing, row)
                        with self.assertRaises(NoTable):
                            ask(row, thing)

    def test_unlike_many_wires(self):
        for ask in (goes_with, product):
            for many in range(1, 6):
                for other in range(1, 6):
                    if many != other:
                        for one in (0, 1):
                            with self.subTest(ask=ask, many=many, other=other), self.assertRaises(NoTable):
                                ask((0, (one,) * many, (0,) * many), (1, (0,) * other, (one,) * other))


class TheOracle(unittest.TestCase):
    """The tests' own doing of sign rows stands on the gates' table."""

    def test_by_hand(self):
        self.assertEqual(done_worths((0, (1,), (1,)), state_worths(begun(1, 0))), [(0, 0, 0, 0), (0, 0, 1, 0)])
        self.assertEqual(done_worths((1, (0, 1), (1, 0)), state_worths(begun(2, 2))), state_worths(State([NOUGHT, NOUGHT, NOUGHT, ONE])))


if __name__ == "__main__":
    unittest.main()
