"""Promises 2 (c), 16 and 17: sign tables along a circuit tell just what the numbers tell, reading by reading."""

import random
import unittest

from bothwire.circuits import Asking, Circuit, Reading
from bothwire.errors import NoCircuit, NoGate
from bothwire.gates import Ccx, Cx, Cz, H, R, S, Swap, T, U, X, Y, Z
from bothwire.runs import run
from bothwire.signtables import SignTable, plain_table
from bothwire.states import begun
from bothwire.tableruns import table_run
from tests.draws import mixed_circuit, plain_circuit
from tests.oracle import NOUGHT, product_worth, worth
from tests.stateoracle import NO_WORTH, ONE_WORTH, QUARTER_WORDS, run_worths, state_worths
from tests.test_signtables import sign_rows
from tests.things import NO_CIRCUITS

QUARTER_GATES = (X(0), Y(1), Z(0), S(1), R(0), H(1), Cx(0, 1), Cz(1, 0), Swap(0, 1))


def row_worths(many):
    """The worths of the state at row 0."""
    return [ONE_WORTH] + [NO_WORTH] * (2 ** many - 1)


class TableRunTest(unittest.TestCase):
    def assert_table_run(self, circuit):
        """The tables tell what the run on the state at row 0 tells, branch by branch."""
        told = circuit.told()
        found = table_run(circuit)
        self.assertIs(found.__class__, list)
        branches = run(circuit, begun(circuit.many(), 0))
        self.assertEqual([triple[0] for triple in found], [bits for bits, _ in branches])
        # An own reckoning by rows, too: run and table_run might be wrong alike.
        self.assertEqual([triple[0] for triple in found], sorted(run_worths(told, row_worths(circuit.many()))))
        for triple, (_, state) in zip(found, branches):
            self.assert_branch(triple, circuit.many(), state)
        self.assertEqual(circuit.told(), told)

    def assert_branch(self, triple, many, state):
        """A branch has the chance and the state of this one."""
        self.assertIs(triple.__class__, tuple)
        bits, k, table = triple
        self.assertIs(bits.__class__, tuple)
        self.assertTrue(all(bit.__class__ is int for bit in bits))
        self.assertIs(k.__class__, int)
        self.assertEqual(state.length(), (1, 0, k))
        self.assertIsInstance(table, SignTable)
        self.assertEqual(table.many(), many)
        self.assertIs(table.holds(state), True)
        self.assert_state(table.state(), state)

    def assert_state(self, own, state):
        """A table's state has length 1, its first eighth is 1 by roots, and it is the state but for one factor."""
        self.assertEqual(own.length(), (1, 0, 0))
        at = [one == NOUGHT for one in own.eighths()].index(False)
        self.assertEqual(own.eighths()[at][:4], (1, 0, 0, 0))
        ours, theirs = state_worths(own), state_worths(state)
        self.assertNotEqual(theirs[at], NO_WORTH)
        for one, other in zip(ours, theirs):
            self.assertEqual(product_worth(one, theirs[at]), product_worth(ours[at], other))

    def assert_told(self, many, rows, expected):
        """The run of tables is told so: bits, k, rows as a text."""
        found = [(bits, k, table.rows()) for bits, k, table in table_run(Circuit(many, rows))]
        self.assertEqual(found, [(bits, k, sign_rows(text)) for bits, k, text in expected])


class ByHand(TableRunTest):
    def test_without_rows(self):
        for many in range(1, 6):
            found = table_run(Circuit(many, []))
            self.assertEqual([(bits, k, table.rows()) for bits, k, table in found], [((), 0, plain_table(many).rows())])
            self.assert_table_run(Circuit(many, []))

    def test_gates_alone(self):
        self.assert_told(1, [X(0)], [((), 0, "-z")])
        self.assert_told(1, [H(0)], [((), 0, "+x")])
        self.assert_told(1, [H(0), S(0)], [((), 0, "+y")])
        self.assert_told(1, [S(0), H(0)], [((), 0, "+x")])
        self.assert_told(2, [H(0), Cx(0, 1)], [((), 0, "+xx +zz")])
        self.assert_told(2, [Cx(0, 1), H(0)], [((), 0, "+xi +iz")])

    def test_a_pair_that_is_read(self):
        self.assert_told(2, [H(0), Cx(0, 1), Reading(0, "b"), Reading(1, "a")], [
            ((0, 0), 1, "+zi +iz"), ((1, 1), 1, "-zi -iz"),
        ])

    def test_readings_that_are_told_have_no_chance_lost(self):
        self.assert_told(1, [Reading(0, "a")], [((0,), 0, "+z")])
        self.assert_told(1, [X(0), Reading(0, "a"), Reading(0, "b")], [((1, 1), 0, "-z")])
        self.assert_told(2, [X(1), Reading(0, "a"), Reading(1, "b")], [((0, 1), 0, "+zi -iz")])
        self.assert_told(1, [H(0), Reading(0, "a"), Reading(0, "b"), H(0), Reading(0, "c")], [
            ((0, 0, 0), 2, "+z"), ((0, 0, 1), 2, "-z"), ((1, 1, 0), 2, "+z"), ((1, 1, 1), 2, "-z"),
        ])

    def test_asked_where_it_was_read_so(self):
        self.assert_told(1, [H(0), Reading(0, "a"), Asking("a", 1, X(0))], [((0,), 1, "+z"), ((1,), 1, "+z")])
        self.assert_told(1, [H(0), Reading(0, "a"), Asking("a", 0, X(0))], [((0,), 1, "-z"), ((1,), 1, "-z")])
        self.assert_told(1, [Reading(0, "a"), Asking("a", 1, H(0))], [((0,), 0, "+z")])
        self.assert_told(1, [Reading(0, "a"), Asking("a", 0, H(0))], [((0,), 0, "+x")])

    def test_asks_its_own_bit(self):
        rows = [H(0), Reading(0, "b"), X(0), Reading(1, "a"), Asking("a", 0, X(1)), Asking("b", 1, X(0))]
        self.assert_told(2, rows, [((0, 0), 1, "-zi -iz"), ((1, 0), 1, "-zi -iz")])

    def test_branches_of_their_own_chances(self):
        # Where 1 was read the second reading is either, else it is told.
        rows = [H(0), Reading(0, "b"), Asking("b", 1, H(1)), Reading(1, "a")]
        self.assert_told(2, rows, [((0, 0), 1, "+zi +iz"), ((1, 0), 2, "-zi +iz"), ((1, 1), 2, "-zi -iz")])


class AgainstTheRun(TableRunTest):
    def test_circuits_of_gates_alone(self):
        chance = random.Random(101)
        for many in range(1, 6):
            for rows in (1, 2, 5, 12, 25):
                circuit = plain_circuit(chance, many, rows, QUARTER_WORDS)
                with self.subTest(circuit=circuit.told()):
                    self.assert_table_run(circuit)

    def test_circuits_that_read_and_ask(self):
        chance = random.Random(102)
        for many in range(1, 6):
            for readings in (1, 2, 3, 4, 5):
                for rows in (6, 12, 20):
                    circuit = mixed_circuit(chance, many, rows, readings, QUARTER_WORDS)
                    with self.subTest(circuit=circuit.told()):
                        self.assert_table_run(circuit)

    def test_of_60_rows_and_5_readings(self):
        chance = random.Random(103)
        for many in range(1, 6):
            self.assert_table_run(mixed_circuit(chance, many, 60, 5, QUARTER_WORDS))

    def test_either_at_each_reading(self):
        for many in range(1, 6):
            rows = [H(wire) for wire in range(many)]
            rows += [Reading(wire, bit) for wire, bit in zip(reversed(range(many)), "edcba")]
            found = table_run(Circuit(many, rows))
            self.assertEqual([k for _, k, _ in found], [many] * 2 ** many)
            self.assert_table_run(Circuit(many, rows))

    def test_one_wire_read_five_times(self):
        rows = []
        for bit in "abcde":
            rows += [H(0), Reading(0, bit)]
        found = table_run(Circuit(1, rows))
        self.assertEqual([(k, len(found)) for _, k, _ in found], [(5, 32)] * 32)
        self.assert_table_run(Circuit(1, rows))
        self.assert_table_run(Circuit(1, rows[:1] + [Reading(0, bit) for bit in "abcde"]))

    def test_what_one_wire_had_goes_to_another_one(self):
        for ahead in ([], [X(0)], [H(0)], [H(0), S(0)], [X(0), H(0), R(0)]):
            rows = ahead + [
                H(1), Cx(1, 2), Cx(0, 1), H(0), Reading(0, "b"), Reading(1, "a"), Asking("a", 1, X(2)), Asking("b", 1, Z(2)),
            ]
            self.assert_table_run(Circuit(3, rows))

    def test_chances_add_up(self):
        chance = random.Random(104)
        for many in range(1, 6):
            found = table_run(mixed_circuit(chance, many, 30, 5, QUARTER_WORDS))
            self.assertEqual(sum(2 ** (5 - k) for _, k, _ in found), 2 ** 5)

    def test_worths_of_the_first_eighth(self):
        for many in range(1, 6):
            for count in range(many + 1):
                rows = [H(wire) for wire in range(count)] + [S(0)]
                table = table_run(Circuit(many, rows))[0][2]
                first = table.state().eighths()[0]
                self.assertEqual(first, (1, 0, 0, 0, count))
                self.assertEqual(worth(first), worth((1, 0, 0, 0, count)))


class Refused(unittest.TestCase):
    def test_what_is_no_circuit(self):
        for thing in NO_CIRCUITS + (begun(1, 0), plain_table(1)):
            with self.subTest(thing=thing), self.assertRaises(NoCircuit):
                table_run(thing)

    def test_gates_that_are_no_quarter_gates(self):
        for gate in (T(0), U(1), Ccx(0, 1, 2), T(2), U(2), Ccx(2, 0, 1)):
            for ahead in ([], list(QUARTER_GATES), [H(0)] * 59, [Reading(0, "b")]):
                for behind in ([], [X(0)], [Reading(1, "c"), Asking("c", 1, H(0))]):
                    rows = (ahead + [gate] + behind)[:60]
                    with self.subTest(rows=Circuit(3, rows).told()), self.assertRaises(NoGate):
                        table_run(Circuit(3, rows))

    def test_asking_gates_that_are_no_quarter_gates(self):
        for gate in (T(0), U(1), Ccx(0, 1, 2)):
            for value in (0, 1):
                # Whether it was read so or not: 0 is always read here.
                for behind in ([], [X(0)], [Asking("b", 0, H(0))]):
                    rows = [Reading(0, "b"), Asking("b", value, gate)] + behind
                    with self.assertRaises(NoGate):
                        table_run(Circuit(3, rows))

    def test_two_that_undo_one_another_are_refused_all_the_same(self):
        for rows in ([T(0), U(0)], [T(0)] * 8, [Ccx(0, 1, 2)] * 2):
            with self.assertRaises(NoGate):
                table_run(Circuit(3, rows))

    def test_each_quarter_gate_is_let_by(self):
        for gate in QUARTER_GATES:
            self.assertEqual(len(table_run(Circuit(2, [gate]))), 1)
            self.assertEqual(len(table_run(Circuit(2, [Reading(0, "b"), Asking("b", 1, gate)]))), 1)


class AskersOwn(TableRunTest):
    def test_what_is_told_is_free(self):
        circuit = mixed_circuit(random.Random(105), 3, 20, 4, QUARTER_WORDS)
        told = circuit.told()
        first = table_run(circuit)
        expected = [(bits, k, table.rows()) for bits, k, table in first]
        first[0][2].rows().clear()
        first.clear()
        self.assertEqual([(bits, k, table.rows()) for bits, k, table in table_run(circuit)], expected)
        self.assertEqual(circuit.told(), told)

    def test_branches_are_tables_of_their_own(self):
        found = table_run(Circuit(2, [H(0), Reading(0, "b")]))
        one, other = found[0][2], found[1][2]
        kept = other.rows()
        one.on(X(1)).rows().clear()
        one.read(1, 0)
        self.assertEqual(other.rows(), kept)
        self.assertEqual(one.rows(), sign_rows("+zi +iz"))


if __name__ == "__main__":
    unittest.main()
