"""Promise 9: circuits of gates, readings and asking gates."""

import unittest

from bothwire.circuits import Asking, Circuit, Reading
from bothwire.errors import NoCircuit, TooMany, WireError
from bothwire.gates import Ccx, Cx, Cz, H, S, Swap, T, U, X, Y, Z, gate_of
from bothwire.states import begun
from tests.stateoracle import each_gate, mixed_state
from tests.things import NO_NAMES, NO_NUMBERS, Odd

NO_ROWS = (None, 0, True, "x 0", ("x", 0), ["x 0"], X, Odd(), {}, begun(1, 0))


def done_on(circuit, state):
    """What the gates of a plain circuit make of a state, one behind the other."""
    for gate in circuit.rows():
        state = gate.on(state)
    return state


def mixed_rows():
    """Rows of all sorts on three wires."""
    return [
        H(0), Cx(0, 1), Reading(0, "a"), Asking("a", 1, X(2)), Ccx(2, 1, 0), Reading(2, "bitname"),
        Asking("bitname", 0, Swap(1, 2)), Asking("a", 0, Ccx(0, 1, 2)), T(1),
    ]


MIXED_TEXTS = (
    "h 0", "cx 0 1", "read 0 a", "if a 1 x 2", "ccx 2 1 0", "read 2 bitname",
    "if bitname 0 swap 1 2", "if a 0 ccx 0 1 2", "t 1",
)


class Rows(unittest.TestCase):
    def test_reading(self):
        for wire in range(5):
            for bit in ("a", "abcdefgh", "read", "if", "x"):
                reading = Reading(wire, bit)
                self.assertEqual((reading.wire, reading.bit), (wire, bit))
                self.assertEqual(reading.text(), "read " + str(wire) + " " + bit)

    def test_asking(self):
        for word, wires in each_gate(4):
            for value in (0, 1):
                gate = gate_of(word, wires)
                asking = Asking("abc", value, gate)
                self.assertEqual((asking.bit, asking.value), ("abc", value))
                self.assertIs(asking.gate, gate)
                self.assertEqual(asking.text(), "if abc " + str(value) + " " + gate.text())

    def test_they_refuse_nothing_by_themselves(self):
        for thing in NO_NUMBERS + NO_NAMES + (5, -1):
            reading = Reading(thing, thing)
            self.assertIs(reading.wire, thing)
            self.assertIs(reading.bit, thing)
            asking = Asking(thing, thing, thing)
            self.assertIs(asking.bit, thing)
            self.assertIs(asking.value, thing)
            self.assertIs(asking.gate, thing)


class Told(unittest.TestCase):
    def test_mixed_rows(self):
        rows = mixed_rows()
        circuit = Circuit(3, rows)
        self.assertEqual(circuit.many(), 3)
        self.assertIs(circuit.many().__class__, int)
        self.assertEqual(circuit.told(), MIXED_TEXTS)
        self.assertEqual(circuit.bits(), ("a", "bitname"))
        self.assertIs(circuit.is_plain(), False)
        self.assertIs(circuit.rows().__class__, list)
        self.assertEqual([row.text() for row in circuit.rows()], list(MIXED_TEXTS))
        self.assertEqual([row.__class__ for row in circuit.rows()], [row.__class__ for row in rows])

    def test_rows_have_their_fields(self):
        rows = Circuit(3, mixed_rows()).rows()
        self.assertEqual((rows[2].wire, rows[2].bit), (0, "a"))
        self.assertEqual((rows[3].bit, rows[3].value, rows[3].gate.text()), ("a", 1, "x 2"))
        self.assertEqual(rows[1].wires(), (0, 1))

    def test_without_rows(self):
        for many in range(1, 6):
            circuit = Circuit(many, [])
            self.assertEqual(circuit.many(), many)
            self.assertEqual(circuit.rows(), [])
            self.assertEqual(circuit.told(), ())
            self.assertEqual(circuit.bits(), ())
            self.assertIs(circuit.is_plain(), True)
            self.assertEqual(circuit.back().rows(), [])
            self.assertEqual(circuit.back().many(), many)
            self.assertEqual(circuit.then(circuit).rows(), [])

    def test_each_gate_on_each_number_of_wires(self):
        for many in range(1, 6):
            for word, wires in each_gate(many):
                circuit = Circuit(many, [gate_of(word, wires)])
                self.assertEqual(circuit.told(), (gate_of(word, wires).text(),))
                self.assertIs(circuit.is_plain(), True)
                self.assertEqual(circuit.bits(), ())
                asked = Circuit(many, [Reading(many - 1, "b"), Asking("b", 1, gate_of(word, wires))])
                self.assertEqual(asked.told()[1], "if b 1 " + gate_of(word, wires).text())

    def test_is_plain(self):
        self.assertIs(Circuit(2, [X(0), Cx(1, 0), T(1)]).is_plain(), True)
        self.assertIs(Circuit(2, [X(0), Reading(1, "a")]).is_plain(), False)
        self.assertIs(Circuit(2, [Reading(0, "a")]).is_plain(), False)
        self.assertIs(Circuit(2, [Reading(0, "a"), Asking("a", 0, X(0)), X(1)]).is_plain(), False)

    def test_bits_in_the_order_of_reading(self):
        rows = [Reading(0, "z"), Reading(0, "a"), Reading(1, "mm"), X(0), Reading(1, "b"), Reading(0, "abcdefgh")]
        self.assertEqual(Circuit(2, rows).bits(), ("z", "a", "mm", "b", "abcdefgh"))
        self.assertIs(Circuit(2, rows).bits().__class__, tuple)
        self.assertIs(Circuit(2, rows).told().__class__, tuple)

    def test_a_wire_is_read_more_than_once(self):
        rows = [Reading(0, "a"), Reading(0, "b"), Reading(0, "c")]
        self.assertEqual(Circuit(1, rows).told(), ("read 0 a", "read 0 b", "read 0 c"))

    def test_bits_of_one_and_of_eight_letters(self):
        for bit in ("a", "z", "abcdefgh", "zzzzzzzz", "read", "if", "end", "do", "x", "cx", "wires", "circuit"):
            circuit = Circuit(1, [Reading(0, bit), Asking(bit, 0, X(0)), Asking(bit, 1, Z(0))])
            self.assertEqual(circuit.bits(), (bit,))
            self.assertEqual(circuit.told(), ("read 0 " + bit, "if " + bit + " 0 x 0", "if " + bit + " 1 z 0"))


class AskersOwn(unittest.TestCase):
    def test_what_was_handed_in_is_free(self):
        rows = mixed_rows()
        kept = list(rows)
        circuit = Circuit(3, rows)
        self.assertEqual(rows, kept)
        rows.pop()
        rows[0] = X(1)
        rows.append(None)
        self.assertEqual(circuit.told(), MIXED_TEXTS)
        self.assertEqual(circuit.bits(), ("a", "bitname"))
        self.assertEqual(len(circuit.rows()), 9)

    def test_what_is_told_is_the_askers_own(self):
        circuit = Circuit(3, mixed_rows())
        told = circuit.rows()
        told[0] = X(1)
        told.pop()
        told.clear()
        self.assertEqual(circuit.told(), MIXED_TEXTS)
        self.assertEqual([row.text() for row in circuit.rows()], list(MIXED_TEXTS))
        plain = Circuit(1, [X(0)])
        plain.back().rows().clear()
        plain.then(plain).rows().clear()
        self.assertEqual(plain.told(), ("x 0",))

    def test_joined_ones_stay(self):
        one, other = Circuit(2, [X(0)]), Circuit(2, [Y(1)])
        both = one.then(other)
        both.rows().append(Z(0))
        self.assertEqual((one.told(), other.told(), both.told()), (("x 0",), ("y 1",), ("x 0", "y 1")))

    def test_a_refusal_changes_nothing(self):
        rows = [X(0), None]
        with self.assertRaises(WireError):
            Circuit(1, rows)
        self.assertEqual(rows[1], None)
        self.assertEqual(len(rows), 2)
        one = Circuit(1, [Reading(0, "a")])
        with self.assertRaises(NoCircuit):
            one.then(one)
        with self.assertRaises(NoCircuit):
            one.back()
        self.assertEqual(one.told(), ("read 0 a",))


class Refused(unittest.TestCase):
    def assert_refused(self, many, rows):
        """No circuit, also ahead of too many rows or readings."""
        with self.assertRaises(NoCircuit):
            Circuit(many, rows)
        if isinstance(rows, list):
            with self.assertRaises(NoCircuit):
                Circuit(many, rows + [X(0)] * 61)
            with self.assertRaises(NoCircuit):
                Circuit(many, [X(0)] * 61 + rows)
            readings = [Reading(0, bit) for bit in ("ka", "kb", "kc", "kd", "ke", "kf")]
            with self.assertRaises(NoCircuit):
                Circuit(many, readings + rows)

    def test_what_is_no_number_of_wires(self):
        for many in NO_NUMBERS + (0, 6, -1, 10 ** 30, 32):
            for rows in ([], [X(0)], None):
                with self.subTest(many=many, rows=rows):
                    self.assert_refused(many, rows)

    def test_what_is_no_list_of_rows(self):
        for rows in ((), (X(0),), None, 0, True, "x 0", {}, {X(0): 1}, X(0), Reading(0, "a"), Circuit(1, []), iter([])):
            with self.subTest(rows=rows):
                self.assert_refused(1, rows)

    def test_rows_that_are_none(self):
        for row in NO_ROWS + (Circuit(1, []), [X(0)], (X(0),), Reading, Asking):
            for rows in ([row], [X(0), row], [row, X(0)], [Reading(0, "a"), row]):
                with self.subTest(rows=rows):
                    self.assert_refused(1, rows)

    def test_gates_on_wires_that_it_has_not(self):
        for many in range(1, 5):
            for word, wires in each_gate(5):
                if max(wires) >= many:
                    gate = gate_of(word, wires)
                    with self.subTest(many=many, gate=gate.text()):
                        self.assert_refused(many, [gate])
                        self.assert_refused(many, [Reading(0, "a"), Asking("a", 1, gate)])

    def test_readings_of_wires_that_are_none(self):
        for many in range(1, 6):
            for wire in NO_NUMBERS + (many, many + 1, -1, 10 ** 30, X(0)):
                with self.subTest(many=many, wire=wire):
                    self.assert_refused(many, [Reading(wire, "a")])

    def test_bits_that_are_no_names(self):
        for bit in NO_NAMES:
            with self.subTest(bit=bit):
                self.assert_refused(1, [Reading(0, bit)])
                self.assert_refused(1, [Reading(0, bit), Asking(bit, 1, X(0))])
                self.assert_refused(1, [Reading(0, "a"), Asking(bit, 1, X(0))])

    def test_a_bit_that_is_read_twice(self):
        self.assert_refused(2, [Reading(0, "a"), Reading(1, "a")])
        self.assert_refused(2, [Reading(0, "a"), Reading(0, "a")])
        self.assert_refused(2, [Reading(0, "a"), Reading(0, "b"), X(0), Reading(1, "a")])

    def test_a_bit_that_is_asked_ahead_of_its_reading_or_never_read(self):
        self.assert_refused(2, [Asking("a", 1, X(0))])
        self.assert_refused(2, [Asking("a", 1, X(0)), Reading(0, "a")])
        self.assert_refused(2, [Reading(0, "b"), Asking("a", 1, X(0))])
        self.assert_refused(2, [Reading(0, "b"), Asking("a", 1, X(0)), Reading(1, "a")])
        self.assert_refused(2, [Reading(0, "ab"), Asking("a", 1, X(0))])

    def test_values_that_are_neither_0_nor_1(self):
        for value in NO_NUMBERS + (2, -1, 10 ** 30, "0"):
            with self.subTest(value=value):
                self.assert_refused(1, [Reading(0, "a"), Asking("a", value, X(0))])

    def test_asking_gates_around_no_gate(self):
        for gate in NO_ROWS + (Reading(0, "b"), Reading(0, "a"), Asking("a", 1, X(0)), Circuit(1, [X(0)])):
            with self.subTest(gate=gate):
                self.assert_refused(1, [Reading(0, "a"), Asking("a", 1, gate)])


class HowMany(unittest.TestCase):
    def test_just_60_rows(self):
        circuit = Circuit(1, [X(0)] * 60)
        self.assertEqual(circuit.told(), ("x 0",) * 60)
        self.assertEqual(len(circuit.back().rows()), 60)

    def test_61_rows(self):
        for rows in ([X(0)] * 61, [Reading(0, "a")] + [Asking("a", 1, X(0))] * 60, [H(0)] * 1000):
            with self.assertRaises(TooMany):
                Circuit(1, rows)

    def test_just_5_readings(self):
        rows = [Reading(0, bit) for bit in "abcde"]
        self.assertEqual(Circuit(1, rows).bits(), ("a", "b", "c", "d", "e"))
        self.assertEqual(len(Circuit(1, rows + [Asking("e", 1, X(0))] * 55).rows()), 60)

    def test_6_readings(self):
        rows = [Reading(0, bit) for bit in "abcdef"]
        with self.assertRaises(TooMany):
            Circuit(1, rows)
        with self.assertRaises(TooMany):
            Circuit(1, rows[:5] + [X(0)] * 9 + [Asking("a", 1, X(0)), rows[5]])
        with self.assertRaises(TooMany):
            Circuit(5, rows + [X(0)] * 60)


class Back(unittest.TestCase):
    def test_told_by_hand(self):
        circuit = Circuit(3, [H(0), S(1), T(2), Cx(0, 1), U(0), Ccx(2, 1, 0), Swap(0, 2), gate_of("r", (1,)), Y(0)])
        self.assertEqual(circuit.back().told(), (
            "y 0", "s 1", "swap 0 2", "ccx 2 1 0", "t 0", "cx 0 1", "u 2", "r 1", "h 0",
        ))
        self.assertEqual(circuit.back().many(), 3)
        self.assertIs(circuit.back().is_plain(), True)
        self.assertEqual(circuit.back().back().told(), circuit.told())
        self.assertEqual(circuit.told()[0], "h 0")

    def test_gives_the_state_back_exactly(self):
        for many in range(1, 6):
            gates = [gate_of(word, wires) for word, wires in each_gate(many)]
            for at in range(0, len(gates), 12):
                circuit = Circuit(many, (gates[at:] + gates[:at])[:40])
                state = mixed_state(many, 400 + at)
                behind = done_on(circuit, state)
                self.assertEqual(behind.length(), state.length())
                self.assertEqual(done_on(circuit.back(), behind).eighths(), state.eighths())
                self.assertEqual(done_on(circuit, done_on(circuit.back(), state)).eighths(), state.eighths())

    def test_refuses_circuits_that_read_or_ask(self):
        for rows in (
            [Reading(0, "a")], [X(0), Reading(0, "a")], [Reading(0, "a"), X(0)],
            [Reading(0, "a"), Asking("a", 1, X(0))], mixed_rows(),
        ):
            with self.assertRaises(NoCircuit):
                Circuit(3, rows).back()


class Then(unittest.TestCase):
    def test_one_behind_the_other(self):
        one = Circuit(3, mixed_rows())
        other = Circuit(3, [Z(2), Reading(1, "c"), Asking("c", 0, Cz(0, 2))])
        both = one.then(other)
        self.assertIsInstance(both, Circuit)
        self.assertEqual(both.many(), 3)
        self.assertEqual(both.told(), MIXED_TEXTS + ("z 2", "read 1 c", "if c 0 cz 0 2"))
        self.assertEqual(both.bits(), ("a", "bitname", "c"))
        self.assertEqual(other.then(one).told(), other.told() + MIXED_TEXTS)
        self.assertEqual(other.then(one).bits(), ("c", "a", "bitname"))
        self.assertEqual((one.told(), other.told()), (MIXED_TEXTS, ("z 2", "read 1 c", "if c 0 cz 0 2")))

    def test_of_plain_ones(self):
        one, other = Circuit(2, [X(0)]), Circuit(2, [H(1)])
        self.assertEqual(one.then(other).told(), ("x 0", "h 1"))
        self.assertIs(one.then(other).is_plain(), True)
        self.assertEqual(one.then(one).told(), ("x 0", "x 0"))
        self.assertEqual(one.then(Circuit(2, [])).told(), ("x 0",))
        self.assertEqual(Circuit(2, []).then(one).told(), ("x 0",))
        self.assertIs(one.then(Circuit(2, [Reading(0, "a")])).is_plain(), False)

    def test_refuses_what_is_no_circuit_of_as_many_wires(self):
        for many in range(1, 6):
            circuit = Circuit(many, [X(0)])
            others = tuple(Circuit(other, [X(0)]) for other in range(1, 6) if other != many)
            for thing in NO_ROWS + others + (X(0), [X(0)], Reading(0, "a"), Circuit):
                with self.subTest(many=many, thing=thing), self.assertRaises(NoCircuit):
                    circuit.then(thing)

    def test_refuses_a_bit_that_both_read(self):
        one = Circuit(2, [Reading(0, "a"), Reading(1, "b")])
        for rows in ([Reading(1, "a")], [X(0), Reading(0, "b")], [Reading(0, "c"), Reading(0, "a")]):
            with self.assertRaises(NoCircuit):
                one.then(Circuit(2, rows))
            with self.assertRaises(NoCircuit):
                Circuit(2, rows).then(one)
        with self.assertRaises(NoCircuit):
            one.then(one)

    def test_just_60_rows_together(self):
        for many in (0, 1, 30, 59, 60):
            both = Circuit(1, [X(0)] * many).then(Circuit(1, [Z(0)] * (60 - many)))
            self.assertEqual(both.told(), ("x 0",) * many + ("z 0",) * (60 - many))

    def test_more_than_60_rows_together(self):
        for many in (1, 30, 60):
            with self.assertRaises(TooMany):
                Circuit(1, [X(0)] * many).then(Circuit(1, [Z(0)] * (61 - many)))
        with self.assertRaises(TooMany):
            Circuit(1, [X(0)] * 60).then(Circuit(1, [X(0)] * 60))

    def test_readings_together(self):
        one = Circuit(1, [Reading(0, bit) for bit in "abc"])
        self.assertEqual(one.then(Circuit(1, [Reading(0, "d"), Reading(0, "e")])).bits(), tuple("abcde"))
        with self.assertRaises(TooMany):
            one.then(Circuit(1, [Reading(0, bit) for bit in "def"]))

    def test_no_circuit_comes_ahead_of_too_many(self):
        one = Circuit(1, [Reading(0, bit) for bit in "abc"] + [X(0)] * 50)
        with self.assertRaises(NoCircuit):
            one.then(Circuit(1, [Reading(0, bit) for bit in "defa"] + [X(0)] * 50))
        with self.assertRaises(NoCircuit):
            one.then(Circuit(2, [X(0)] * 60))


if __name__ == "__main__":
    unittest.main()
