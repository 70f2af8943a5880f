"""Promises 7 and 8: gates, what each does row by row, and the gate that undoes it."""

import unittest

from bothwire import gates
from bothwire.errors import NoGate, NoState, NoWire, WireError
from bothwire.gates import Ccx, Cx, Cz, Gate, H, R, S, Swap, T, U, X, Y, Z, gate_of
from bothwire.numbers import lowest, turned
from bothwire.states import State, begun
from tests.oracle import NOUGHT, ONE, eighth_told, is_told_rightly
from tests.stateoracle import (
    BACK_WORDS, BIT_WORDS, QUARTER_WORDS, TABLE, WIRES_OF,
    each_gate, gate_worths, mixed_state, nought_state, row_state, state_worths, wires_choices,
)
from tests.things import NO_NUMBERS, NO_STATES, Odd

CLASSES = {
    "x": X, "y": Y, "z": Z, "s": S, "r": R, "t": T, "u": U, "h": H,
    "cx": Cx, "cz": Cz, "swap": Swap, "ccx": Ccx,
}

NO_WIRES = NO_NUMBERS + (5, -1, 6, 10, -5, 10 ** 30, (0,), [0])

NO_WORDS = (
    "", "X", "CX", "xx", "x ", " x", "x 0", "cy", "cxx", "ccz", "i", "do", "read", "if", "tdg", "Swap", "swaps",
    None, 1, True, b"x", ("x",), ["x"], {"x": 1}, X, Odd(),
)


class Classes(unittest.TestCase):
    def test_each_is_under_gate(self):
        for word, made in CLASSES.items():
            self.assertTrue(issubclass(made, Gate))
            self.assertIsNot(made, Gate)
            self.assertIs(made, getattr(gates, made.__name__))
            self.assertEqual(made.__name__, word.capitalize())

    def test_word_wires_and_text(self):
        for word, wires in each_gate(5):
            gate = CLASSES[word](*wires)
            self.assertIsInstance(gate, Gate)
            self.assertEqual(gate.word(), word)
            self.assertEqual(gate.wires(), wires)
            self.assertIs(gate.wires().__class__, tuple)
            self.assertEqual(gate.text(), " ".join([word] + [str(wire) for wire in wires]))

    def test_texts_by_hand(self):
        for gate, text in (
            (X(0), "x 0"), (Y(4), "y 4"), (Z(1), "z 1"), (S(2), "s 2"), (R(3), "r 3"), (T(0), "t 0"), (U(1), "u 1"),
            (H(4), "h 4"), (Cx(0, 1), "cx 0 1"), (Cz(4, 0), "cz 4 0"), (Swap(2, 1), "swap 2 1"),
            (Ccx(4, 2, 0), "ccx 4 2 0"),
        ):
            self.assertEqual(gate.text(), text)

    def test_bit_gates_and_quarter_gates(self):
        for word, wires in each_gate(4):
            gate = CLASSES[word](*wires)
            self.assertIs(gate.is_bit(), word in BIT_WORDS, word)
            self.assertIs(gate.is_quarter(), word in QUARTER_WORDS, word)

    def test_refuse_wires_that_are_none(self):
        for word, made in CLASSES.items():
            count = WIRES_OF[word]
            for place in range(count):
                for thing in NO_WIRES:
                    wires = list(range(count))
                    wires[place] = thing
                    with self.subTest(word=word, wires=wires), self.assertRaises(NoWire):
                        made(*wires)

    def test_refuse_alike_wires(self):
        for wire in range(5):
            for made in (Cx, Cz, Swap):
                with self.assertRaises(NoWire):
                    made(wire, wire)
            for other in range(5):
                for wires in ((wire, wire, other), (wire, other, wire), (other, wire, wire)):
                    with self.subTest(wires=wires), self.assertRaises(NoWire):
                        Ccx(*wires)

    def test_a_refusal_is_a_wire_error(self):
        with self.assertRaises(WireError):
            X(5)


class On(unittest.TestCase):
    def assert_done(self, word, wires, state):
        """The gate does on the state what the table tells, number by number."""
        handed = state.eighths()
        found = CLASSES[word](*wires).on(state)
        self.assertIsInstance(found, State)
        self.assertEqual(found.many(), state.many())
        self.assertEqual(state_worths(found), gate_worths(word, wires, state_worths(state)), (word, wires))
        self.assertTrue(all(is_told_rightly(one) for one in found.eighths()))
        self.assertEqual(state.eighths(), handed)

    def test_each_on_every_choice_of_wires(self):
        for many in range(1, 6):
            state = mixed_state(many, 300 + many)
            for word, wires in each_gate(many):
                with self.subTest(many=many, word=word, wires=wires):
                    self.assert_done(word, wires, state)

    def test_each_at_each_row(self):
        for many in range(1, 6):
            for word, wires in each_gate(many):
                for row in range(2 ** many):
                    self.assert_done(word, wires, row_state(many, row))

    def test_told_by_hand(self):
        a, b, c, d = (1, 2, 3, 3, 1), (0, 1, 0, 0, 0), (5, 0, 0, 0, 3), (0, 0, 0, 7, 0)
        two = State([a, b, c, d])
        for gate, told in (
            (X(0), [c, d, a, b]),
            (X(1), [b, a, d, c]),
            (Y(0), [turned(c, 6), turned(d, 6), turned(a, 2), turned(b, 2)]),
            (Y(1), [turned(b, 6), turned(a, 2), turned(d, 6), turned(c, 2)]),
            (Z(0), [a, b, turned(c, 4), turned(d, 4)]),
            (Z(1), [a, turned(b, 4), c, turned(d, 4)]),
            (S(0), [a, b, turned(c, 2), turned(d, 2)]),
            (R(1), [a, turned(b, 6), c, turned(d, 6)]),
            (T(0), [a, b, turned(c, 1), turned(d, 1)]),
            (U(1), [a, turned(b, 7), c, turned(d, 7)]),
            (Cx(0, 1), [a, b, d, c]),
            (Cx(1, 0), [a, d, c, b]),
            (Cz(0, 1), [a, b, c, turned(d, 4)]),
            (Cz(1, 0), [a, b, c, turned(d, 4)]),
            (Swap(0, 1), [a, c, b, d]),
            (Swap(1, 0), [a, c, b, d]),
        ):
            self.assertEqual(gate.on(two).eighths(), told, gate.text())
        one = (1, 0, 0, 0, 1)
        self.assertEqual(H(0).on(begun(1, 0)).eighths(), [one, one])
        self.assertEqual(H(0).on(begun(1, 1)).eighths(), [one, (-1, 0, 0, 0, 1)])
        self.assertEqual(H(1).on(begun(2, 2)).eighths(), [NOUGHT, NOUGHT, one, one])
        self.assertEqual(H(0).on(begun(2, 2)).eighths(), [one, NOUGHT, (-1, 0, 0, 0, 1), NOUGHT])
        self.assertEqual(Ccx(0, 1, 2).on(begun(3, 6)).eighths(), begun(3, 7).eighths())
        self.assertEqual(Ccx(2, 1, 0).on(begun(3, 6)).eighths(), begun(3, 6).eighths())
        self.assertEqual(Ccx(2, 0, 1).on(begun(3, 5)).eighths(), begun(3, 7).eighths())

    def test_what_comes_to_one_row_is_added_up(self):
        self.assertEqual(H(0).on(H(0).on(begun(1, 1))).eighths(), [NOUGHT, ONE])
        both = State([(1, 0, 0, 0, 1), (1, 0, 0, 0, 1)])
        self.assertEqual(H(0).on(both).eighths(), [ONE, NOUGHT])
        self.assertEqual(H(0).on(State([ONE, ONE])).eighths(), [(0, 1, 0, -1, 0), NOUGHT])

    def test_nought_everywhere_stays(self):
        for many in range(1, 6):
            for word, wires in each_gate(many):
                found = CLASSES[word](*wires).on(nought_state(many))
                self.assertEqual(found.eighths(), [NOUGHT] * 2 ** many)

    def test_eighths_of_some_hundred_figures(self):
        vast = vast_state()
        for word, wires in each_gate(2):
            self.assert_done(word, wires, vast)

    def test_length_stays(self):
        for many in range(1, 6):
            state = mixed_state(many, 320 + many)
            for word, wires in each_gate(many):
                self.assertEqual(CLASSES[word](*wires).on(state).length(), state.length(), (word, wires))

    def test_refuse_what_is_no_state(self):
        for word, wires in each_gate(5):
            gate = CLASSES[word](*wires)
            for thing in NO_STATES + (gate,):
                with self.subTest(gate=gate.text(), thing=thing), self.assertRaises(NoState):
                    gate.on(thing)

    def test_refuse_a_state_of_too_few_wires(self):
        for many in range(1, 5):
            for word, wires in each_gate(5):
                gate = CLASSES[word](*wires)
                if max(wires) >= many:
                    with self.subTest(gate=gate.text(), many=many), self.assertRaises(NoWire):
                        gate.on(begun(many, 0))
                else:
                    self.assertEqual(gate.on(begun(many, 0)).many(), many)

    def test_what_is_told_is_the_askers_own(self):
        state = begun(1, 0)
        found = Z(0).on(state)
        found.eighths()[0] = NOUGHT
        self.assertEqual(found.eighths(), [ONE, NOUGHT])
        self.assertEqual(state.eighths(), [ONE, NOUGHT])


class Back(unittest.TestCase):
    def test_word_and_wires(self):
        for word, wires in each_gate(5):
            back = CLASSES[word](*wires).back()
            self.assertIsInstance(back, CLASSES[BACK_WORDS[word]])
            self.assertEqual(back.text(), CLASSES[BACK_WORDS[word]](*wires).text())
            self.assertEqual(back.wires(), wires)
            self.assertEqual(back.back().text(), CLASSES[word](*wires).text())

    def test_undoes(self):
        for many in range(1, 6):
            state = mixed_state(many, 340 + many)
            for word, wires in each_gate(many):
                gate = CLASSES[word](*wires)
                self.assertEqual(gate.back().on(gate.on(state)).eighths(), state.eighths(), gate.text())
                self.assertEqual(gate.on(gate.back().on(state)).eighths(), state.eighths(), gate.text())


class GateOf(unittest.TestCase):
    def test_each_word_and_choice_of_wires(self):
        for word, wires in each_gate(5):
            gate = gate_of(word, wires)
            self.assertIsInstance(gate, CLASSES[word])
            self.assertEqual(gate.word(), word)
            self.assertEqual(gate.wires(), wires)

    def test_refuses_what_is_no_word(self):
        for word in NO_WORDS:
            for wires in ((0,), (0, 1), (0, 1, 2), (), (9,), (0, 0), [0], None):
                with self.subTest(word=word, wires=wires), self.assertRaises(NoGate):
                    gate_of(word, wires)

    def test_refuses_another_count_of_wires(self):
        for word in TABLE:
            for count in range(6):
                for wires in (tuple(range(count)), (0,) * count, (9,) * count, (None,) * count):
                    if count != WIRES_OF[word]:
                        with self.subTest(word=word, wires=wires), self.assertRaises(NoGate):
                            gate_of(word, wires)

    def test_refuses_what_is_no_tuple(self):
        for word in TABLE:
            wires = list(range(WIRES_OF[word]))
            for thing in (wires, None, 0, True, "0", "012"[:len(wires)], set(wires), dict.fromkeys(wires), range(len(wires))):
                with self.subTest(word=word, thing=thing), self.assertRaises(NoGate):
                    gate_of(word, thing)
            with self.assertRaises(NoGate):
                gate_of(word, [9] * len(wires))

    def test_refuses_wires_that_are_none(self):
        for word in TABLE:
            for place in range(WIRES_OF[word]):
                for thing in NO_WIRES:
                    wires = list(range(WIRES_OF[word]))
                    wires[place] = thing
                    with self.subTest(word=word, wires=wires), self.assertRaises(NoWire):
                        gate_of(word, tuple(wires))

    def test_refuses_alike_wires(self):
        for word in ("cx", "cz", "swap"):
            with self.assertRaises(NoWire):
                gate_of(word, (2, 2))
        for wires in ((1, 1, 0), (1, 0, 1), (0, 1, 1), (3, 3, 3)):
            with self.assertRaises(NoWire):
                gate_of("ccx", wires)

    def test_choices_are_whole(self):
        self.assertEqual([len(wires_choices(5, count)) for count in (1, 2, 3)], [5, 20, 60])


def vast_state():
    """A state of two wires with eighths of some hundred figures."""
    return State([
        lowest(10 ** 300 + 1, -(10 ** 299), 3, 10 ** 250, 7), eighth_told(1, 0, 0, 10 ** 400, 0),
        NOUGHT, lowest(7 ** 500, 1, 1, -(3 ** 600), 900),
    ])


if __name__ == "__main__":
    unittest.main()
