"""Promises 2 (d), 18 and 19: two circuits are alike by a turn, or an input parts them."""

import random
import unittest

from bothwire.alike import held, input_of
from bothwire.circuits import Asking, Circuit, Reading
from bothwire.errors import NoCircuit, NoState
from bothwire.gates import Ccx, Cx, Cz, H, R, S, Swap, T, U, X, Y, Z, gate_of
from bothwire.runs import columns, run
from bothwire.states import State, begun
from tests.draws import plain_circuit
from tests.oracle import NOUGHT, ONE
from tests.signoracle import turned_worths
from tests.stateoracle import BACK_WORDS, NO_WORTH, ONE_WORTH, each_gate, run_worths
from tests.things import NO_CIRCUITS, NO_NUMBERS, Odd

BY_ROOT = (1, 0, 0, 0, 1)


def row_worths(many, row):
    """The worths of the state at a row."""
    return [ONE_WORTH if at == row else NO_WORTH for at in range(2 ** many)]


def turns_of(one, other):
    """By row the turn from the one's state to the other's, None where there is none, by an own reckoning."""
    found = []
    for row in range(2 ** one.many()):
        left = run_worths(one.told(), row_worths(one.many(), row))[()]
        right = run_worths(other.told(), row_worths(one.many(), row))[()]
        turns = [turn for turn in range(8) if turned_worths(left, turn) == right]
        assert len(turns) < 2
        found.append(turns[0] if turns else None)
    return found


def expected_of(turns):
    """What is told of circuits with these turns."""
    if None in turns:
        return ("parted", (turns.index(None),))
    unlike = [row for row, turn in enumerate(turns) if turn != turns[0]]
    return ("parted", (0, unlike[0])) if unlike else ("alike", turns[0])


def left_by(circuit, eighths):
    """The state that a plain circuit makes of a state."""
    return run(circuit, State(eighths))[0][1]


class HeldTest(unittest.TestCase):
    def assert_held(self, one, other):
        """Two circuits are told what an own reckoning tells of them; where they are parted the input parts them."""
        texts = (one.told(), other.told())
        found = held(one, other)
        self.assertIs(found.__class__, tuple)
        self.assertEqual(found, expected_of(turns_of(one, other)), texts)
        if found[0] == "alike":
            self.assertIs(found[1].__class__, int)
            for left, right in zip(columns(one), columns(other)):
                self.assertEqual(left.turn_to(right), found[1])
        else:
            self.assertIs(found[1].__class__, tuple)
            self.assertTrue(all(row.__class__ is int for row in found[1]))
            self.assert_parts(one, other, found[1])
        self.assertEqual((one.told(), other.told()), texts)
        return found

    def assert_parts(self, one, other, rows):
        """No turn makes the one's state the other's behind the input of these rows."""
        own = input_of(one.many(), rows).eighths()
        self.assertIsNone(left_by(one, own).turn_to(left_by(other, own)))
        self.assertIsNone(left_by(other, own).turn_to(left_by(one, own)))


class Alike(HeldTest):
    def test_without_rows(self):
        for many in range(1, 6):
            self.assertEqual(held(Circuit(many, []), Circuit(many, [])), ("alike", 0))

    def test_of_itself(self):
        chance = random.Random(201)
        for many in range(1, 6):
            circuit = plain_circuit(chance, many, 12)
            self.assertEqual(held(circuit, circuit), ("alike", 0))
            self.assertEqual(held(circuit, Circuit(many, circuit.rows())), ("alike", 0))

    def test_by_each_turn(self):
        for turn in range(8):
            for many in sorted({1, 2, 1 + turn % 5}):
                wire = turn % many
                # T and x, twice over, turn each row by one eighth.
                rows = [T(wire), X(wire), T(wire), X(wire)] * turn
                one, other = Circuit(many, [H(0)]), Circuit(many, [H(0)] + rows)
                self.assertEqual(self.assert_held(one, other), ("alike", turn))
                self.assertEqual(held(other, one), ("alike", -turn % 8))
                self.assertEqual(held(Circuit(many, rows), Circuit(many, [])), ("alike", -turn % 8))

    def test_told_by_hand(self):
        for one, other, turn in (
            ([X(0), Y(0)], [Z(0)], 2), ([Y(0), X(0)], [Z(0)], 6), ([Z(0), X(0)], [Y(0)], 2), ([X(0), Z(0)], [Y(0)], 6),
            ([H(0), X(0), H(0)], [Z(0)], 0), ([H(0), Y(0), H(0)], [Y(0)], 4), ([S(0), S(0)], [Z(0)], 0),
            ([X(0), Z(0), X(0), Z(0)], [], 4), ([Y(0), Y(0)], [], 0), ([T(0), U(0)], [], 0), ([R(0)], [Z(0), S(0)], 0),
            ([H(0), S(0)] * 3, [], 7),
        ):
            self.assertEqual(self.assert_held(Circuit(1, one), Circuit(1, other)), ("alike", turn))

    def test_swap_of_three_cx(self):
        for many in range(2, 6):
            one, other = Circuit(many, [Swap(1, 0)]), Circuit(many, [Cx(0, 1), Cx(1, 0), Cx(0, 1)])
            self.assertEqual(self.assert_held(one, other), ("alike", 0))
        one, other = Circuit(2, [Cz(0, 1)]), Circuit(2, [H(0), Cx(1, 0), H(0)])
        self.assertEqual(self.assert_held(one, other), ("alike", 0))

    def test_ccx_of_eighth_turns(self):
        rows = [
            H(2), Cx(1, 2), U(2), Cx(0, 2), T(2), Cx(1, 2), U(2), Cx(0, 2), T(1), T(2), Cx(0, 1), H(2), T(0), U(1), Cx(0, 1),
        ]
        self.assertEqual(self.assert_held(Circuit(3, [Ccx(0, 1, 2)]), Circuit(3, rows)), ("alike", 0))

    def test_two_more_that_undo_one_another(self):
        chance = random.Random(202)
        for many in range(1, 6):
            for _ in range(4):
                rows = plain_circuit(chance, many, 9).rows()
                word, wires = chance.choice(each_gate(many))
                at = chance.randrange(10)
                more = rows[:at] + [gate_of(word, wires), gate_of(BACK_WORDS[word], wires)] + rows[at:]
                self.assertEqual(held(Circuit(many, rows), Circuit(many, more)), ("alike", 0))

    def test_two_exchanged_that_go_by_one_another(self):
        chance = random.Random(203)
        tried = 0
        for many in range(2, 6):
            for _ in range(4):
                rows = plain_circuit(chance, many, 12).rows()
                for at in range(11):
                    if not set(rows[at].wires()) & set(rows[at + 1].wires()):
                        other = rows[:at] + [rows[at + 1], rows[at]] + rows[at + 2:]
                        self.assertEqual(held(Circuit(many, rows), Circuit(many, other)), ("alike", 0))
                        tried += 1
                        break
        self.assertGreater(tried, 8)


class Parted(HeldTest):
    def test_told_by_hand(self):
        for many, one, other, rows in (
            (1, [], [X(0)], (0,)), (1, [], [H(0)], (0,)), (1, [X(0)], [H(0)], (0,)),
            (1, [], [Z(0)], (0, 1)), (1, [S(0)], [R(0)], (0, 1)), (1, [X(0)], [Y(0)], (0, 1)), (1, [T(0)], [], (0, 1)),
            (2, [], [Cx(0, 1)], (2,)), (2, [], [Cx(1, 0)], (1,)), (2, [], [Swap(0, 1)], (1,)), (2, [], [Cz(0, 1)], (0, 3)),
            (2, [], [Z(1)], (0, 1)), (2, [], [Z(0)], (0, 2)), (2, [Z(0)], [Z(1)], (0, 1)), (2, [S(0), S(1)], [Z(0), Z(1)], (0, 1)),
            (3, [], [Ccx(0, 1, 2)], (6,)), (3, [], [Ccx(0, 2, 1)], (5,)), (3, [Ccx(0, 1, 2)], [Ccx(2, 1, 0)], (3,)),
            (3, [Cx(0, 1)], [Ccx(0, 2, 1)], (4,)), (5, [], [Z(0)], (0, 16)), (5, [Cz(0, 1)], [Cz(0, 1), Cz(1, 4)], (0, 9)),
        ):
            self.assertEqual(self.assert_held(Circuit(many, one), Circuit(many, other)), ("parted", rows), (one, other))

    def test_a_row_goes_ahead_of_unlike_turns(self):
        # The turn of row 1 is another one than that of row 0, but row 2 parts the circuits by itself.
        for rows in ([Z(1), Cx(0, 1)], [Cx(0, 1), Z(1)], [T(1), Cx(0, 1)]):
            self.assertEqual(self.assert_held(Circuit(2, []), Circuit(2, rows)), ("parted", (2,)))
            self.assertEqual(self.assert_held(Circuit(2, rows), Circuit(2, [])), ("parted", (2,)))

    def test_all_columns_alike_by_turns_of_their_own(self):
        chance = random.Random(204)
        words = ("z", "s", "r", "t", "u", "cz")
        found = []
        for many in range(1, 6):
            for _ in range(8):
                ahead = plain_circuit(chance, many, 6, ("x", "cx", "swap", "ccx")).rows() if chance.random() < 0.5 else []
                one = Circuit(many, ahead + plain_circuit(chance, many, 3, words).rows())
                other = Circuit(many, ahead + plain_circuit(chance, many, 3, words).rows())
                found.append(self.assert_held(one, other))
        self.assertTrue(all(told == ("alike", 0) or len(told[1]) == 2 for told in found))
        self.assertGreater(len({told for told in found if told[0] == "parted"}), 3)

    def test_states_in_ones_of_roots(self):
        # Behind h all rows are there: no row of the input has just one row behind it.
        ahead = [H(0), H(1)]
        for more, rows in (([Z(0)], (0,)), ([X(0)], (0, 2)), ([Swap(0, 1)], (1,)), ([Cx(0, 1)], (1,)), ([Y(1)], (0,))):
            self.assertEqual(self.assert_held(Circuit(2, ahead), Circuit(2, ahead + more)), ("parted", rows))


class Drawn(HeldTest):
    def test_one_gate_put_in_left_out_or_exchanged(self):
        chance = random.Random(205)
        kinds = set()
        for many in (1, 2, 3):
            for _ in range(20):
                rows = plain_circuit(chance, many, chance.randint(1, 8)).rows()
                at = chance.randrange(len(rows))
                gate = gate_of(*chance.choice(each_gate(many)))
                for other in (rows[:at] + [gate] + rows[at:], rows[:at] + rows[at + 1:], rows[:at] + [gate] + rows[at + 1:]):
                    told = self.assert_held(Circuit(many, rows), Circuit(many, other))
                    kinds.add((told[0], len(told[1]) if told[0] == "parted" else None))
        self.assertEqual(kinds, {("alike", None), ("parted", 1), ("parted", 2)})

    def test_of_more_wires(self):
        chance = random.Random(206)
        for many in (4, 5):
            for _ in range(3):
                rows = plain_circuit(chance, many, 6).rows()
                at = chance.randrange(6)
                gate = gate_of(*chance.choice(each_gate(many)))
                self.assert_held(Circuit(many, rows), Circuit(many, rows[:at] + [gate] + rows[at:]))
                self.assert_held(Circuit(many, rows), Circuit(many, rows[:at] + rows[at + 1:]))

    def test_of_two_drawn_ones(self):
        chance = random.Random(207)
        for _ in range(60):
            self.assert_held(plain_circuit(chance, 1, 3), plain_circuit(chance, 1, 3))
        for many in (2, 3):
            for _ in range(6):
                self.assert_held(plain_circuit(chance, many, 3), plain_circuit(chance, many, 3))

    def test_of_60_rows(self):
        chance = random.Random(208)
        for many in (1, 3, 5):
            rows = plain_circuit(chance, many, 60).rows()
            other = rows[:59] + [Z(0) if rows[59].word() != "z" else X(0)]
            self.assertEqual(held(Circuit(many, rows), Circuit(many, rows)), ("alike", 0))
            found = held(Circuit(many, rows), Circuit(many, other))
            self.assertEqual(found[0], "parted")
            self.assert_parts(Circuit(many, rows), Circuit(many, other), found[1])

    def test_told_again(self):
        one, other = Circuit(2, [H(0)]), Circuit(2, [H(0), Z(1)])
        rows = one.rows()
        rows.clear()
        self.assertEqual([held(one, other) for _ in range(3)], [("parted", (0, 1))] * 3)
        self.assertEqual((one.told(), other.told()), (("h 0",), ("h 0", "z 1")))


class HeldRefused(unittest.TestCase):
    def assert_refused(self, one, other):
        with self.assertRaises(NoCircuit):
            held(one, other)

    def test_what_is_no_circuit(self):
        for thing in NO_CIRCUITS + (begun(1, 0),):
            with self.subTest(thing=thing):
                self.assert_refused(thing, Circuit(1, []))
                self.assert_refused(Circuit(1, []), thing)
                self.assert_refused(thing, thing)

    def test_circuits_that_read_or_ask(self):
        plain = Circuit(2, [X(0)])
        for rows in ([Reading(0, "a")], [X(0), Reading(1, "a")], [Reading(0, "a"), X(0)], [Reading(0, "a"), Asking("a", 0, X(0))]):
            circuit = Circuit(2, rows)
            self.assert_refused(circuit, plain)
            self.assert_refused(plain, circuit)
            self.assert_refused(circuit, circuit)

    def test_circuits_of_other_wires(self):
        for many in range(1, 6):
            for other in range(1, 6):
                if many != other:
                    self.assert_refused(Circuit(many, []), Circuit(other, []))
                    self.assert_refused(Circuit(many, [X(0)]), Circuit(other, [X(0)]))


class InputOf(unittest.TestCase):
    def test_one_row(self):
        for many in range(1, 6):
            for row in range(2 ** many):
                state = input_of(many, (row,))
                self.assertIsInstance(state, State)
                self.assertEqual(state.eighths(), [ONE if at == row else NOUGHT for at in range(2 ** many)])

    def test_two_rows(self):
        for many in range(1, 6):
            for other in range(1, 2 ** many):
                for row in range(other):
                    state = input_of(many, (row, other))
                    self.assertIsInstance(state, State)
                    self.assertEqual(state.eighths(), [BY_ROOT if at in (row, other) else NOUGHT for at in range(2 ** many)])
        self.assertEqual(input_of(3, (2, 5)).length(), (1, 0, 0))

    def test_what_is_told_is_free(self):
        rows = (0, 1)
        input_of(1, rows).eighths().clear()
        self.assertEqual(input_of(1, rows).eighths(), [BY_ROOT, BY_ROOT])
        self.assertEqual(rows, (0, 1))


class InputRefused(unittest.TestCase):
    def assert_refused(self, many, rows):
        with self.subTest(many=many, rows=rows), self.assertRaises(NoState):
            input_of(many, rows)

    def test_what_is_no_number_of_wires(self):
        for many in NO_NUMBERS + (0, 6, -1, 10 ** 30):
            for rows in ((0,), (0, 1), None, ()):
                self.assert_refused(many, rows)

    def test_rows_that_are_no_tuple_of_one_or_two(self):
        for many in range(1, 6):
            for rows in (None, 0, 1, True, "0", "01", [0], [0, 1], {0: 1}, {0}, range(1), Odd(), (), (0, 1, 2), (0, 0, 0), (0, 1, 2, 3)):
                self.assert_refused(many, rows)

    def test_rows_that_do_not_rise(self):
        for many in range(1, 6):
            last = 2 ** many - 1
            for rows in ((0, 0), (1, 1), (last, last), (1, 0), (last, 0), (last, last - 1)):
                self.assert_refused(many, rows)

    def test_rows_that_are_not_there(self):
        for many in range(1, 6):
            for row in NO_NUMBERS + (-1, 2 ** many, 2 ** many + 1, 10 ** 30, (0,)):
                self.assert_refused(many, (row,))
                self.assert_refused(many, (0, row))
                self.assert_refused(many, (row, 1))


if __name__ == "__main__":
    unittest.main()
