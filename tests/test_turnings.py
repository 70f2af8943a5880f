"""Promises 2 (f) and 23: where circuits of bit gates bring each row, and a circuit for each turning."""

import itertools
import random
import unittest

from bothwire.circuits import Asking, Circuit, Reading
from bothwire.errors import NoTurning
from bothwire.gates import Ccx, Cx, Cz, Gate, H, R, S, Swap, T, U, X, Y, Z
from bothwire.runs import columns
from bothwire.states import begun
from bothwire.turnings import turning_circuit, turning_of
from tests.draws import plain_circuit
from tests.stateoracle import BIT_WORDS, TABLE, WIRES_OF, each_gate, row_state
from tests.things import NO_CIRCUITS, NO_NUMBERS, Odd


def gone_along(texts, many, row):
    """The row to which a row goes along gates, told by their texts, by the table of promise 7."""
    bits = list(format(row, "0" + str(many) + "b"))
    for text in texts:
        word, *wires = text.split(" ")
        places = [int(wire) for wire in wires]
        [(others, turn, roots)] = TABLE[word]["".join(bits[place] for place in places)]
        assert (turn, roots) == (0, 0)
        for place, bit in zip(places, others):
            bits[place] = bit
    return int("".join(bits), 2)


def all_gone(texts, many):
    """The rows to which all rows go."""
    return [gone_along(texts, many, row) for row in range(2 ** many)]


def some_turnings():
    """Many turnings of three wires: those of two rows exchanged, of rows moved on, drawn ones."""
    found = [list(range(8)), list(range(7, -1, -1))]
    for one, other in itertools.combinations(range(8), 2):
        rows = list(range(8))
        rows[one], rows[other] = other, one
        found.append(rows)
    for by in range(1, 8):
        found.append([(row + by) % 8 for row in range(8)])
        found.append([row ^ by for row in range(8)])
        found.append([row * 3 % 8 ^ by for row in range(8)])
    for at, rows in enumerate(itertools.permutations(range(8))):
        if at % 61 == 0:
            found.append(list(rows))
    # The one that takes more gates than any other one, as the program goes.
    found.append([7, 1, 4, 3, 0, 2, 6, 5])
    chance = random.Random(401)
    for _ in range(150):
        rows = list(range(8))
        chance.shuffle(rows)
        found.append(rows)
    return found


class TurningTest(unittest.TestCase):
    def assert_circuit(self, rows):
        """The circuit of the turning does just that, with few bit gates."""
        handed = list(rows)
        circuit = turning_circuit(rows)
        self.assertEqual(rows, handed)
        self.assertIsInstance(circuit, Circuit)
        many = circuit.many()
        self.assertEqual(2 ** many, len(rows))
        self.assertLessEqual(len(circuit.rows()), 24)
        self.assertTrue(all(isinstance(gate, Gate) and gate.is_bit() for gate in circuit.rows()))
        self.assertEqual(all_gone(circuit.told(), many), rows)
        self.assertEqual(turning_of(circuit), rows)
        self.assertEqual(turning_circuit(list(rows)).told(), circuit.told())
        return circuit


class TurningCircuit(TurningTest):
    def test_each_one_of_one_and_of_two_wires(self):
        for count in (2, 4):
            for rows in itertools.permutations(range(count)):
                circuit = self.assert_circuit(list(rows))
                found = [own.eighths() for own in columns(circuit)]
                self.assertEqual(found, [row_state(circuit.many(), row).eighths() for row in rows])

    def test_many_of_three_wires(self):
        for rows in some_turnings():
            self.assert_circuit(rows)

    def test_some_by_the_states_at_all_rows(self):
        for rows in some_turnings()[::90]:
            found = [own.eighths() for own in columns(turning_circuit(rows))]
            self.assertEqual(found, [row_state(3, row).eighths() for row in rows])

    def test_the_one_that_changes_nothing(self):
        for many in (1, 2, 3):
            circuit = self.assert_circuit(list(range(2 ** many)))
            self.assertEqual(all_gone(circuit.told(), many), list(range(2 ** many)))

    def test_of_a_circuit(self):
        chance = random.Random(402)
        for many in (1, 2, 3):
            for _ in range(12):
                words = [word for word in BIT_WORDS if WIRES_OF[word] <= many]
                circuit = plain_circuit(chance, many, 30, words)
                self.assert_circuit(turning_of(circuit))

    def test_the_same_each_time_whatever_was_asked_between(self):
        rows = [3, 5, 1, 0, 7, 6, 2, 4]
        first = turning_circuit(rows).told()
        for other in some_turnings()[:40]:
            turning_circuit(other)
        self.assertEqual(turning_circuit(rows).told(), first)


class TurningOf(TurningTest):
    def test_told_by_hand(self):
        for many, rows, told in (
            (1, [], [0, 1]), (1, [X(0)], [1, 0]), (1, [X(0), X(0)], [0, 1]), (2, [], [0, 1, 2, 3]),
            (2, [X(0)], [2, 3, 0, 1]), (2, [X(1)], [1, 0, 3, 2]), (2, [Cx(0, 1)], [0, 1, 3, 2]), (2, [Cx(1, 0)], [0, 3, 2, 1]),
            (2, [Swap(0, 1)], [0, 2, 1, 3]), (2, [Swap(1, 0)], [0, 2, 1, 3]), (2, [X(0), Cx(0, 1)], [3, 2, 0, 1]),
            (2, [Cx(0, 1), X(0)], [2, 3, 1, 0]), (3, [Ccx(0, 1, 2)], [0, 1, 2, 3, 4, 5, 7, 6]),
            (3, [Ccx(2, 0, 1)], [0, 1, 2, 3, 4, 7, 6, 5]), (3, [Swap(0, 2)], [0, 4, 2, 6, 1, 5, 3, 7]),
            (3, [Cx(0, 1), Cx(1, 2)], [0, 1, 3, 2, 7, 6, 4, 5]), (5, [X(4)], [row ^ 1 for row in range(32)]),
            (5, [X(0)], [row ^ 16 for row in range(32)]),
        ):
            self.assertEqual(turning_of(Circuit(many, rows)), told, rows)

    def test_without_rows(self):
        for many in range(1, 6):
            self.assertEqual(turning_of(Circuit(many, [])), list(range(2 ** many)))

    def test_each_bit_gate(self):
        for many in range(1, 6):
            for word, wires in each_gate(many, BIT_WORDS):
                text = " ".join([word] + [str(wire) for wire in wires])
                made = {"x": X, "cx": Cx, "swap": Swap, "ccx": Ccx}[word]
                self.assertEqual(turning_of(Circuit(many, [made(*wires)])), all_gone([text], many))

    def test_drawn_circuits(self):
        chance = random.Random(403)
        for many in range(1, 6):
            words = [word for word in BIT_WORDS if WIRES_OF[word] <= many]
            for count in (1, 2, 5, 20, 60):
                circuit = plain_circuit(chance, many, count, words)
                told = circuit.told()
                found = turning_of(circuit)
                self.assertIs(found.__class__, list)
                self.assertTrue(all(row.__class__ is int for row in found))
                self.assertEqual(found, all_gone(told, many))
                self.assertEqual(circuit.told(), told)

    def test_by_the_states_at_all_rows(self):
        chance = random.Random(404)
        for many in range(1, 6):
            words = [word for word in BIT_WORDS if WIRES_OF[word] <= many]
            circuit = plain_circuit(chance, many, 9, words)
            found = [own.eighths() for own in columns(circuit)]
            self.assertEqual(found, [row_state(many, row).eighths() for row in turning_of(circuit)])


class Refused(unittest.TestCase):
    def assert_none(self, rows):
        with self.assertRaises(NoTurning):
            turning_circuit(rows)

    def test_turning_of_what_is_no_circuit(self):
        for thing in NO_CIRCUITS + (begun(1, 0), [1, 0], [0, 1]):
            with self.subTest(thing=thing), self.assertRaises(NoTurning):
                turning_of(thing)

    def test_turning_of_circuits_that_read_or_ask(self):
        for rows in ([Reading(0, "a")], [X(0), Reading(1, "a")], [Reading(0, "a"), Asking("a", 1, X(0))], [Reading(0, "a"), X(1)]):
            with self.assertRaises(NoTurning):
                turning_of(Circuit(2, rows))

    def test_turning_of_circuits_of_other_gates(self):
        for gate in (Y(0), Z(1), S(0), R(1), T(0), U(1), H(0), Cz(0, 1)):
            for rows in ([gate], [X(0), gate], [gate, Cx(0, 1)], [gate] * 2, [gate] * 8):
                with self.subTest(gate=gate.text()), self.assertRaises(NoTurning):
                    turning_of(Circuit(2, rows))

    def test_turning_circuit_of_what_is_no_list(self):
        for thing in (
            None, 0, True, "10", "", (0, 1), (1, 0), (), {}, {0: 1, 1: 0}, {0, 1}, range(2), iter([1, 0]), Odd(), Odd,
            Circuit(1, [X(0)]), begun(1, 0), b"\x00\x01",
        ):
            with self.subTest(thing=thing):
                self.assert_none(thing)

    def test_turning_circuit_of_other_counts(self):
        for count in (0, 1, 3, 5, 6, 7, 9, 15, 16, 32):
            self.assert_none(list(range(count)))

    def test_turning_circuit_of_rows_twice_or_beyond(self):
        for count in (2, 4, 8):
            for at in range(count):
                for row in (-1, count, count + 1, 10 ** 30, (at + 1) % count):
                    rows = list(range(count))
                    rows[at] = row
                    self.assert_none(rows)
            self.assert_none([0] * count)
            self.assert_none([row + 1 for row in range(count)])
            self.assert_none([-row for row in range(count)])

    def test_turning_circuit_of_what_are_no_numbers(self):
        for count in (2, 4, 8):
            for at in range(count):
                for thing in NO_NUMBERS:
                    rows = list(range(count))
                    rows[at] = thing
                    with self.subTest(rows=rows):
                        self.assert_none(rows)
        self.assert_none([False, True])
        self.assert_none([True, 0])


class AskersOwn(unittest.TestCase):
    def test_what_is_told_is_free(self):
        rows = [2, 0, 3, 1]
        circuit = turning_circuit(rows)
        told = circuit.told()
        rows.clear()
        circuit.rows().clear()
        self.assertEqual(circuit.told(), told)
        turning_of(circuit).clear()
        self.assertEqual(turning_of(circuit), [2, 0, 3, 1])


if __name__ == "__main__":
    unittest.main()
