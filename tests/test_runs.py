"""Promises 2, 11 and 12: circuits run on states, their branches and the columns of plain ones."""

import random
import unittest
from fractions import Fraction

from bothwire.circuits import Asking, Circuit, Reading
from bothwire.errors import NoCircuit, NoState
from bothwire.gates import Ccx, Cx, H, S, T, X, Y, Z
from bothwire.lengths import length_sum
from bothwire.numbers import over_root, plus, times, turned
from bothwire.runs import columns, run
from bothwire.states import State, begun
from bothwire.texts import read
from tests.draws import mixed_circuit, plain_circuit
from tests.oracle import NOUGHT, ONE, is_told_rightly, length_worth
from tests.stateoracle import (
    NO_WORTH, ONE_WORTH, length_parts, mixed_state, nought_state, row_state, run_worths, small_state, state_worths,
)
from tests.things import NO_CIRCUITS, NO_STATES


class RunTest(unittest.TestCase):
    def assert_run(self, circuit, state):
        """The run is what an own reckoning row by row tells."""
        handed = state.eighths()
        found = run(circuit, state)
        self.assertIs(found.__class__, list)
        expected = run_worths(circuit.told(), state_worths(state))
        self.assertEqual([bits for bits, _ in found], sorted(expected))
        for pair in found:
            self.assertIs(pair.__class__, tuple)
            bits, own = pair
            self.assertIs(bits.__class__, tuple)
            self.assertTrue(all(bit.__class__ is int for bit in bits))
            self.assertIsInstance(own, State)
            self.assertEqual(own.many(), state.many())
            self.assertEqual(state_worths(own), expected[bits])
            self.assertTrue(all(is_told_rightly(one) for one in own.eighths()))
        self.assertEqual(length_sum([own.length() for _, own in found]), state.length())
        self.assertEqual(state.eighths(), handed)

    def assert_told(self, circuit, state, expected):
        """The run is told so, by bits and eighths."""
        self.assertEqual([(bits, own.eighths()) for bits, own in run(circuit, state)], expected)


class Runs(RunTest):
    def test_without_rows(self):
        for many in range(1, 6):
            state = mixed_state(many, 500 + many)
            self.assert_told(Circuit(many, []), state, [((), state.eighths())])
            self.assert_told(Circuit(many, []), nought_state(many), [((), [NOUGHT] * 2 ** many)])

    def test_gates_one_behind_the_other(self):
        self.assert_told(Circuit(1, [X(0), S(0)]), begun(1, 0), [((), [NOUGHT, (0, 0, 1, 0, 0)])])
        self.assert_told(Circuit(1, [S(0), X(0)]), begun(1, 0), [((), [NOUGHT, ONE])])
        self.assert_told(Circuit(2, [X(0), Cx(0, 1)]), begun(2, 0), [((), [NOUGHT, NOUGHT, NOUGHT, ONE])])
        self.assert_told(Circuit(2, [Cx(0, 1), X(0)]), begun(2, 0), [((), [NOUGHT, NOUGHT, ONE, NOUGHT])])

    def test_a_pair_that_is_read(self):
        one = (1, 0, 0, 0, 1)
        circuit = Circuit(2, [H(0), Cx(0, 1), Reading(0, "a")])
        self.assert_told(circuit, begun(2, 0), [
            ((0,), [one, NOUGHT, NOUGHT, NOUGHT]), ((1,), [NOUGHT, NOUGHT, NOUGHT, one]),
        ])
        # What is read at the other wire behind this is told by then: two branches are left out.
        circuit = Circuit(2, [H(0), Cx(0, 1), Reading(0, "a"), Reading(1, "b")])
        self.assert_told(circuit, begun(2, 0), [
            ((0, 0), [one, NOUGHT, NOUGHT, NOUGHT]), ((1, 1), [NOUGHT, NOUGHT, NOUGHT, one]),
        ])

    def test_asked_where_it_was_read_so(self):
        one = (1, 0, 0, 0, 1)
        for value, told in (
            (0, [((0,), [NOUGHT, one]), ((1,), [NOUGHT, one])]),
            (1, [((0,), [one, NOUGHT]), ((1,), [one, NOUGHT])]),
        ):
            self.assert_told(Circuit(1, [H(0), Reading(0, "a"), Asking("a", value, X(0))]), begun(1, 0), told)

    def test_asks_its_own_bit(self):
        by_root = (1, 0, 0, 0, 1)
        rows = [H(0), Reading(0, "a"), X(0), Reading(1, "b"), Asking("b", 0, X(1)), Asking("a", 1, Z(1))]
        self.assert_told(Circuit(2, rows), begun(2, 0), [
            ((0, 0), [NOUGHT, NOUGHT, NOUGHT, by_root]),
            ((1, 0), [NOUGHT, (-1, 0, 0, 0, 1), NOUGHT, NOUGHT]),
        ])

    def test_bits_in_the_order_of_reading(self):
        rows = [Reading(2, "z"), Reading(0, "a"), Reading(1, "m")]
        for row in range(8):
            bits = (row & 1, row >> 2 & 1, row >> 1 & 1)
            self.assert_told(Circuit(3, rows), begun(3, row), [(bits, row_state(3, row).eighths())])
        spread = State([ONE] * 8)
        self.assertEqual([bits for bits, _ in run(Circuit(3, rows), spread)], [
            (0, 0, 0), (0, 0, 1), (0, 1, 0), (0, 1, 1), (1, 0, 0), (1, 0, 1), (1, 1, 0), (1, 1, 1),
        ])

    def test_branches_left_out(self):
        for many in range(1, 6):
            for wire in range(many):
                for row in range(2 ** many):
                    found = run(Circuit(many, [Reading(wire, "a")]), begun(many, row))
                    bit = row >> (many - 1 - wire) & 1
                    self.assertEqual([bits for bits, _ in found], [(bit,)])

    def test_nought_everywhere(self):
        for many in range(1, 6):
            plain = Circuit(many, [X(0), H(many - 1), T(0)])
            self.assert_told(plain, nought_state(many), [((), [NOUGHT] * 2 ** many)])
            for rows in ([Reading(0, "a")], [X(0), Reading(0, "a"), Reading(0, "b")], [Reading(0, "a"), Asking("a", 1, X(0))]):
                self.assert_told(Circuit(many, rows), nought_state(many), [])

    def test_read_twice(self):
        by_root = (1, 0, 0, 0, 1)
        rows = [H(0), Reading(0, "a"), Reading(0, "b"), H(0), Reading(0, "c")]
        half = over_root(by_root, 1)
        self.assert_told(Circuit(1, rows), begun(1, 0), [
            ((0, 0, 0), [half, NOUGHT]), ((0, 0, 1), [NOUGHT, half]),
            ((1, 1, 0), [half, NOUGHT]), ((1, 1, 1), [NOUGHT, turned(half, 4)]),
        ])

    def test_mixed_circuits_on_mixed_states(self):
        chance = random.Random(81)
        for many in range(1, 6):
            for readings in range(6):
                for make in (mixed_state, small_state):
                    circuit = mixed_circuit(chance, many, 6 + 2 * readings, readings)
                    with self.subTest(circuit=circuit.told()):
                        self.assert_run(circuit, make(many, chance.randrange(10 ** 6)))

    def test_mixed_circuits_on_rows(self):
        chance = random.Random(82)
        for many in range(1, 6):
            for readings in range(6):
                circuit = mixed_circuit(chance, many, 20, readings)
                for row in (0, 2 ** many - 1, chance.randrange(2 ** many)):
                    with self.subTest(circuit=circuit.told(), row=row):
                        self.assert_run(circuit, row_state(many, row))

    def test_of_60_rows_and_5_readings(self):
        chance = random.Random(83)
        for many in (1, 3, 5):
            self.assert_run(mixed_circuit(chance, many, 60, 5), row_state(many, 0))

    def test_the_lengths_of_all_branches_add_up(self):
        chance = random.Random(84)
        for many in range(1, 6):
            for seed in range(4):
                circuit = mixed_circuit(chance, many, 25, min(5, seed + 2))
                for state in (mixed_state(many, seed), begun(many, seed % 2 ** many)):
                    lengths = [own.length() for _, own in run(circuit, state)]
                    self.assertEqual(length_sum(lengths), state.length())

    def test_chances(self):
        # A wire that is turned by an eighth between two h is read as 1 with the chance (2 - root) / 4.
        found = run(Circuit(1, [H(0), T(0), H(0), Reading(0, "a")]), begun(1, 0))
        self.assertEqual([(bits, own.length()) for bits, own in found], [((0,), (2, 1, 2)), ((1,), (2, -1, 2))])

    def test_a_circuit_undone_gives_the_state_back(self):
        chance = random.Random(85)
        for many in range(1, 6):
            for rows in (1, 5, 30):
                circuit = plain_circuit(chance, many, rows)
                state = mixed_state(many, 90 + rows)
                found = run(circuit, state)[0][1]
                self.assertEqual(found.length(), state.length())
                self.assertEqual(run(circuit.back(), found)[0][1].eighths(), state.eighths())
                self.assertEqual(run(circuit.then(circuit.back()), state)[0][1].eighths(), state.eighths())

    def test_of_a_text(self):
        # What wire 0 had is behind this on wire 2, whatever was read.
        text = "wires 3\ncircuit pair 2\nh 0\ncx 0 1\nend\nh 0\nt 0\ndo pair 1 2\nundo pair 0 1\n" \
            "read 0 a\nread 1 b\nif b 1 x 2\nif a 1 z 2\n"
        found = run(read(text), begun(3, 0))
        self.assertEqual([bits for bits, _ in found], [(0, 0), (0, 1), (1, 0), (1, 1)])
        for bits, own in found:
            expected = [NOUGHT] * 8
            at = 4 * bits[0] + 2 * bits[1]
            expected[at], expected[at + 1] = (1, 0, 0, 0, 3), (0, 1, 0, 0, 3)
            self.assertEqual(own.eighths(), expected)
            self.assertEqual(length_worth(own.length()), (Fraction(1, 4), 0))


class Refused(unittest.TestCase):
    def test_run_of_what_is_no_circuit(self):
        for thing in NO_CIRCUITS:
            for state in (begun(1, 0), None, begun(2, 0)):
                with self.subTest(thing=thing, state=state), self.assertRaises(NoCircuit):
                    run(thing, state)

    def test_run_on_what_is_no_state_of_as_many_wires(self):
        for many in range(1, 6):
            others = tuple(begun(other, 0) for other in range(1, 6) if other != many)
            for rows in ([], [X(0)], [Reading(0, "a")]):
                for thing in NO_STATES + others + (Circuit(many, []),):
                    with self.subTest(many=many, thing=thing), self.assertRaises(NoState):
                        run(Circuit(many, rows), thing)

    def test_columns_of_what_is_no_circuit(self):
        for thing in NO_CIRCUITS + (begun(1, 0),):
            with self.subTest(thing=thing), self.assertRaises(NoCircuit):
                columns(thing)

    def test_columns_of_a_circuit_that_reads(self):
        for rows in ([Reading(0, "a")], [X(0), Reading(1, "a")], [Reading(0, "a"), Asking("a", 0, X(0)), H(1)]):
            with self.assertRaises(NoCircuit):
                columns(Circuit(2, rows))


class Columns(unittest.TestCase):
    def test_without_rows(self):
        for many in range(1, 6):
            found = columns(Circuit(many, []))
            self.assertIs(found.__class__, list)
            self.assertEqual([own.eighths() for own in found], [row_state(many, row).eighths() for row in range(2 ** many)])

    def test_told_by_hand(self):
        found = columns(Circuit(2, [X(1), Cx(1, 0), S(0)]))
        expected = []
        for row, turn in ((3, 2), (0, 0), (1, 0), (2, 2)):
            expected.append([turned(one, turn) for one in row_state(2, row).eighths()])
        self.assertEqual([own.eighths() for own in found], expected)
        self.assertEqual([own.eighths() for own in columns(Circuit(3, [Ccx(0, 1, 2)]))][6], row_state(3, 7).eighths())
        self.assertEqual([own.eighths() for own in columns(Circuit(1, [Y(0)]))], [[NOUGHT, (0, 0, 1, 0, 0)], [(0, 0, -1, 0, 0), NOUGHT]])

    def test_of_mixed_circuits(self):
        chance = random.Random(91)
        for many in range(1, 6):
            for rows in (1, 8, 20):
                circuit = plain_circuit(chance, many, rows)
                found = columns(circuit)
                self.assertEqual(len(found), 2 ** many)
                for row, own in enumerate(found):
                    self.assertIsInstance(own, State)
                    worths = [ONE_WORTH if at == row else NO_WORTH for at in range(2 ** many)]
                    self.assertEqual(state_worths(own), run_worths(circuit.told(), worths)[()])

    def test_put_together_by_the_eighths_of_a_state(self):
        chance = random.Random(92)
        for many in range(1, 6):
            circuit = plain_circuit(chance, many, 15)
            state = mixed_state(many, 93)
            total = [NOUGHT] * 2 ** many
            for eighth, own in zip(state.eighths(), columns(circuit)):
                total = [plus(one, times(eighth, part)) for one, part in zip(total, own.eighths())]
            self.assertEqual(run(circuit, state)[0][1].eighths(), total)
            self.assertEqual(length_parts(state_worths(State(total))), length_worth(state.length()))


class AskersOwn(unittest.TestCase):
    def test_what_is_told_is_free(self):
        state = begun(1, 0)
        circuit = Circuit(1, [H(0), Reading(0, "a")])
        found = run(circuit, state)
        found[0][1].eighths().clear()
        found.clear()
        self.assertEqual([bits for bits, _ in run(circuit, state)], [(0,), (1,)])
        self.assertEqual(state.eighths(), [ONE, NOUGHT])
        self.assertEqual(circuit.told(), ("h 0", "read 0 a"))
        plain = Circuit(1, [X(0)])
        columns(plain).clear()
        self.assertEqual(len(columns(plain)), 2)

    def test_run_again_is_told_again(self):
        state = mixed_state(3, 7)
        circuit = mixed_circuit(random.Random(5), 3, 20, 3)
        first = [(bits, own.eighths()) for bits, own in run(circuit, state)]
        self.assertEqual([(bits, own.eighths()) for bits, own in run(circuit, state)], first)


if __name__ == "__main__":
    unittest.main()
