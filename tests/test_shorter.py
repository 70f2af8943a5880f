"""Promises 2 (e), 20, 21 and 22: the steps that can be done on circuits, and circuits made shorter by them."""

import itertools
import random
import unittest

from bothwire.alike import held
from bothwire.circuits import Asking, Circuit, Reading
from bothwire.errors import NoCircuit, NoRow
from bothwire.gates import Ccx, Cx, Cz, Gate, H, R, S, Swap, T, U, X, Y, Z, gate_of
from bothwire.runs import columns
from bothwire.shorter import can_step, shortened, stepped
from bothwire.states import begun
from tests.draws import plain_circuit
from tests.stateoracle import TABLE, WIRES_OF, each_gate, state_worths, wires_choices
from tests.signoracle import turned_worths
from tests.stepsoracle import BETWEEN_TWO_H, all_steps, behind, come_to, pairs_of, shortened_gates, texts_of
from tests.things import NO_CIRCUITS, NO_NUMBERS, Odd

ONE_WIRE = tuple(word for word in TABLE if WIRES_OF[word] == 1)

NO_STEPS = (
    None, 0, 1, True, "01", "", b"01", [], [0, 1], [0, 1, 2], {}, {0: 1}, {0, 1}, range(2), Odd(), Odd,
    (), (0,), (1,), (0, 1, 2, 3), ((0, 1),), (0, (1,)), (1, 0), (0, 0), (1, 1), (-1, 0), (-2, -1), (0, -1), (0, 10 ** 30),
    (2, 1, 0), (0, 2, 1), (0, 0, 1), (0, 1, 1), (1, 0, 2), (-1, 0, 1), (0, 1, -1), (-3, -2, -1),
)

READING = ([Reading(0, "a")], [X(0), Reading(0, "a"), X(0)], [X(0), X(0), Reading(1, "a")], [Reading(0, "a"), Asking("a", 1, X(0))])


def gates_of(many, text):
    """A circuit of the gates of a text, a comma between."""
    found = []
    for row in text.split(", "):
        word, *wires = row.split(" ")
        found.append(gate_of(word, tuple(int(wire) for wire in wires)))
    return Circuit(many, found)


class StepTest(unittest.TestCase):
    def assert_step(self, circuit, step):
        """A step can be done just where the words of the promises tell it, and leaves what they tell."""
        texts = circuit.told()
        expected = behind(pairs_of(circuit), step)
        self.assertIs(can_step(circuit, step), expected is not None, (texts, step))
        if expected is None:
            with self.assertRaises(NoRow):
                stepped(circuit, step)
        else:
            found = stepped(circuit, step)
            self.assertIsInstance(found, Circuit)
            self.assertEqual(found.many(), circuit.many())
            self.assertIs(found.is_plain(), True)
            self.assertTrue(all(isinstance(gate, Gate) for gate in found.rows()))
            self.assertEqual(found.told(), texts_of(expected), (texts, step))
        self.assertEqual(circuit.told(), texts)
        return expected is not None

    def assert_each_step(self, circuit):
        """Each step, of two places and of three, those that rise and those that do not."""
        many = len(circuit.rows())
        for step in itertools.chain(itertools.product(range(many + 1), repeat=2), itertools.combinations(range(many + 1), 3)):
            self.assert_step(circuit, step)

    def assert_alike(self, one, other):
        """One turn makes all columns of the one those of the other."""
        pairs = [(state_worths(left), state_worths(right)) for left, right in zip(columns(one), columns(other))]
        turns = [turn for turn in range(8) if all(turned_worths(left, turn) == right for left, right in pairs)]
        self.assertEqual(len(turns), 1, (one.told(), other.told()))
        self.assertEqual(held(one, other), ("alike", turns[0]))

    def assert_shortened(self, circuit):
        """It is shortened by the least step again and again, and what is left is alike."""
        texts = circuit.told()
        found = shortened(circuit)
        self.assertIs(found.__class__, tuple)
        left, steps = found
        gates, expected = shortened_gates(pairs_of(circuit))
        self.assertIs(steps.__class__, list)
        self.assertEqual(steps, expected)
        self.assertTrue(all(step.__class__ is tuple and all(at.__class__ is int for at in step) for step in steps))
        self.assertIsInstance(left, Circuit)
        self.assertEqual((left.many(), left.told()), (circuit.many(), texts_of(gates)))
        self.assertLessEqual(len(left.rows()), len(circuit.rows()))
        self.assertEqual(circuit.told(), texts)
        return left, steps

    def assert_left(self, many, text, step, left):
        """Behind a step these gates are left."""
        circuit = gates_of(many, text)
        self.assertIs(can_step(circuit, step), True, text)
        self.assertEqual(", ".join(stepped(circuit, step).told()), left)

    def assert_none(self, many, text, step):
        """The step can't be done."""
        circuit = gates_of(many, text)
        self.assertIs(can_step(circuit, step), False, text)
        with self.assertRaises(NoRow):
            stepped(circuit, step)


class TwoOfOneWire(StepTest):
    def test_told_by_hand(self):
        for one, other, come in (
            ("x", "x", ""), ("y", "y", ""), ("z", "z", ""), ("h", "h", ""),
            ("x", "y", "z"), ("y", "x", "z"), ("x", "z", "y"), ("z", "x", "y"), ("y", "z", "x"), ("z", "y", "x"),
            ("z", "s", "r"), ("s", "z", "r"), ("z", "r", "s"), ("r", "z", "s"), ("s", "s", "z"), ("r", "r", "z"),
            ("s", "r", ""), ("r", "s", ""), ("t", "u", ""), ("u", "t", ""), ("t", "t", "s"), ("u", "u", "r"),
            ("s", "u", "t"), ("u", "s", "t"), ("r", "t", "u"), ("t", "r", "u"),
        ):
            for wire in range(5):
                left = come + " " + str(wire) if come else ""
                self.assert_left(5, f"{one} {wire}, {other} {wire}", (0, 1), left)

    def test_turns_of_3_and_5_come_to_no_gate(self):
        for one, other in (("s", "t"), ("z", "t"), ("z", "u"), ("r", "u")):
            for wire in range(5):
                self.assert_none(5, f"{one} {wire}, {other} {wire}", (0, 1))
                self.assert_none(5, f"{other} {wire}, {one} {wire}", (0, 1))

    def test_all_others_come_to_no_gate(self):
        done = 0
        for one in ONE_WIRE:
            for other in ONE_WIRE:
                circuit = gates_of(1, f"{one} 0, {other} 0")
                done += self.assert_step(circuit, (0, 1))
                if not can_step(circuit, (0, 1)):
                    self.assertIsNone(come_to((one, (0,)), (other, (0,))))
        self.assertEqual(done, 26)
        for one, other in (("x", "h"), ("h", "x"), ("x", "s"), ("s", "x"), ("y", "t"), ("h", "z"), ("h", "s"), ("u", "y")):
            self.assert_none(1, f"{one} 0, {other} 0", (0, 1))

    def test_of_unlike_wires(self):
        for word in ONE_WIRE:
            for one, other in wires_choices(5, 2):
                self.assert_none(5, f"{word} {one}, {word} {other}", (0, 1))
        self.assert_none(2, "x 0, y 1", (0, 1))
        self.assert_none(2, "s 0, s 1", (0, 1))

    def test_what_is_left_is_alike(self):
        for one in ONE_WIRE:
            for other in ONE_WIRE:
                circuit = gates_of(2, f"{one} 1, {other} 1")
                if can_step(circuit, (0, 1)):
                    self.assert_alike(circuit, stepped(circuit, (0, 1)))


class TwoOfMoreWires(StepTest):
    def test_told_by_hand(self):
        for text in (
            "cx 0 1, cx 0 1", "cx 1 0, cx 1 0", "cx 4 2, cx 4 2", "cz 0 1, cz 0 1", "cz 0 1, cz 1 0", "cz 3 1, cz 1 3",
            "swap 0 1, swap 0 1", "swap 0 1, swap 1 0", "swap 4 0, swap 0 4",
            "ccx 0 1 2, ccx 0 1 2", "ccx 0 1 2, ccx 1 0 2", "ccx 4 2 0, ccx 2 4 0",
        ):
            self.assert_left(5, text, (0, 1), "")

    def test_those_that_come_to_nothing_told(self):
        for text in (
            "cx 0 1, cx 1 0", "cx 4 2, cx 2 4", "cx 0 1, cx 0 2", "cx 0 1, cx 2 1", "cx 0 1, cz 0 1", "cz 0 1, cx 0 1",
            "cz 0 1, swap 0 1", "swap 0 1, cx 0 1", "swap 0 1, swap 0 2", "cz 0 1, cz 1 2", "ccx 0 1 2, ccx 0 2 1",
            "ccx 0 1 2, ccx 2 1 0", "ccx 0 1 2, ccx 1 2 0", "ccx 0 1 2, ccx 2 0 1", "ccx 0 1 2, ccx 0 1 3", "ccx 0 1 2, ccx 0 3 2",
            "ccx 0 1 2, cx 1 2", "cx 0 1, ccx 0 1 2", "ccx 0 1 2, x 2", "x 0, cx 0 1", "cx 0 1, x 1", "z 0, cz 0 1", "cz 0 1, z 1",
        ):
            self.assert_none(5, text, (0, 1))

    def test_each_two_gates(self):
        done = 0
        for one, other in itertools.product(each_gate(3), repeat=2):
            circuit = Circuit(3, [gate_of(*one), gate_of(*other)])
            done += self.assert_step(circuit, (0, 1))
            if can_step(circuit, (0, 1)):
                self.assert_alike(circuit, stepped(circuit, (0, 1)))
        # 26 for each wire; for each two wires one way of cx, two each of cz and swap, for each order; two for each ccx.
        self.assertEqual(done, 3 * 26 + 6 * (1 + 2 + 2) + 6 * 2)


class Meeting(StepTest):
    def test_gates_between_that_go_by(self):
        self.assert_left(3, "x 0, h 1, x 0", (0, 2), "h 1")
        self.assert_left(3, "x 0, h 1, cx 1 2, y 0, h 2", (0, 3), "h 1, cx 1 2, z 0, h 2")
        self.assert_left(5, "cx 0 1, ccx 2 3 4, h 3, cx 0 1", (0, 3), "ccx 2 3 4, h 3")
        self.assert_left(5, "h 4, swap 1 2, cz 0 3, x 4, swap 2 1, x 0", (1, 4), "h 4, cz 0 3, x 4, x 0")
        self.assert_left(5, "ccx 0 2 4, x 1, x 3, ccx 2 0 4", (0, 3), "x 1, x 3")
        self.assert_left(2, "t 0, h 1, h 1, t 0", (0, 3), "h 1, h 1, s 0")
        self.assert_left(2, "t 0, h 1, h 1, t 0", (1, 2), "t 0, t 0")

    def test_gates_between_that_do_not(self):
        for between in ("h 0", "z 0", "cz 0 1", "cz 1 0", "cx 2 0", "cx 0 2", "ccx 1 2 0", "ccx 0 1 2", "swap 1 0"):
            for ahead, behind_it in (("", ""), ("h 1, ", ""), ("", ", t 2"), ("h 2, ", ", x 1")):
                places = 2 + len([sign for sign in ahead + behind_it if sign == ","])
                self.assert_none(3, f"x 0, {ahead}{between}{behind_it}, x 0", (0, places))
                self.assert_none(3, f"s 0, {ahead}{between}{behind_it}, s 0", (0, places))

    def test_gates_between_have_to_go_by_each_wire_of_the_first(self):
        for text in (
            "cx 0 1, x 1, cx 0 1", "cx 0 1, z 0, cx 0 1", "cz 0 1, t 0, cz 1 0", "swap 0 1, cx 1 2, swap 0 1",
            "ccx 0 1 2, x 0, ccx 0 1 2", "ccx 0 1 2, x 1, ccx 0 1 2", "ccx 0 1 2, x 2, ccx 0 1 2", "cx 0 1, cx 0 2, cx 0 1",
        ):
            self.assert_none(3, text, (0, 2))

    def test_of_gates_ahead_and_behind_nothing_is_asked(self):
        self.assert_left(2, "h 0, x 0, x 0, h 0", (1, 2), "h 0, h 0")
        self.assert_left(2, "cx 0 1, x 0, y 0, cx 0 1", (1, 2), "cx 0 1, z 0, cx 0 1")

    def test_where_the_new_gate_stands(self):
        # In the place of gate j, behind all gates between.
        self.assert_left(3, "x 0, h 1, t 2, y 0, u 1", (0, 3), "h 1, t 2, z 0, u 1")
        self.assert_left(3, "h 0, t 1, x 0, t 2, h 0, u 1", (0, 2, 4), "t 1, z 0, t 2, u 1")


class ThreeOfOneWire(StepTest):
    def test_told_by_hand(self):
        for word, come in (("x", "z"), ("z", "x"), ("y", "y")):
            for wire in range(5):
                self.assert_left(5, f"h {wire}, {word} {wire}, h {wire}", (0, 1, 2), f"{come} {wire}")
        self.assertEqual(BETWEEN_TWO_H, {"x": "z", "z": "x", "y": "y"})

    def test_other_gates_in_the_middle(self):
        for word in ("h", "s", "r", "t", "u"):
            self.assert_none(2, f"h 0, {word} 0, h 0", (0, 1, 2))
        for text in ("h 0, cx 0 1, h 0", "h 0, cz 0 1, h 0", "h 0, x 1, h 0", "h 1, cx 0 1, h 1", "h 0, swap 0 1, h 0"):
            self.assert_none(2, text, (0, 1, 2))

    def test_other_gates_around(self):
        for one, other in itertools.product(ONE_WIRE, repeat=2):
            if (one, other) != ("h", "h"):
                for word in ("x", "y", "z"):
                    self.assert_none(1, f"{one} 0, {word} 0, {other} 0", (0, 1, 2))
        for text in ("h 0, x 0, h 1", "h 1, x 0, h 0", "h 1, x 0, h 1", "h 0, x 1, h 1"):
            self.assert_none(2, text, (0, 1, 2))

    def test_gates_between_that_go_by(self):
        self.assert_left(3, "h 0, cx 1 2, x 0, t 1, u 2, h 0", (0, 2, 5), "cx 1 2, z 0, t 1, u 2")
        self.assert_left(2, "h 0, h 1, z 0, z 1, h 0, h 1", (0, 2, 4), "h 1, x 0, z 1, h 1")
        self.assert_left(2, "h 0, h 1, z 0, z 1, h 0, h 1", (1, 3, 5), "h 0, z 0, x 1, h 0")

    def test_gates_between_that_do_not(self):
        for between in ("t 0", "x 0", "h 0", "cz 0 1", "cx 1 0", "ccx 1 2 0", "swap 0 2"):
            self.assert_none(3, f"h 0, {between}, x 0, h 0", (0, 2, 3))
            self.assert_none(3, f"h 0, x 0, {between}, h 0", (0, 1, 3))
            self.assert_none(3, f"h 0, {between}, x 0, {between}, h 0", (0, 2, 4))

    def test_what_is_left_is_alike(self):
        for word in ("x", "y", "z"):
            circuit = gates_of(2, f"t 0, h 1, h 0, {word} 1, cx 0 1, {word} 0, h 1")
            self.assertFalse(can_step(circuit, (1, 3, 6)))
            circuit = gates_of(2, f"t 0, h 1, h 0, {word} 1, h 1, cx 0 1, {word} 0")
            self.assert_alike(circuit, stepped(circuit, (1, 3, 4)))


class EachStep(StepTest):
    def test_of_drawn_circuits(self):
        chance = random.Random(301)
        for many in (1, 2, 3):
            for _ in range(10):
                self.assert_each_step(plain_circuit(chance, many, 8))
        for many in (4, 5):
            for _ in range(4):
                self.assert_each_step(plain_circuit(chance, many, 9))

    def test_of_drawn_circuits_of_few_words(self):
        chance = random.Random(302)
        for words in (("h", "x", "z", "y"), ("s", "r", "t", "u", "z"), ("cx", "cz", "swap", "x", "h"), ("ccx", "cx")):
            for _ in range(6):
                self.assert_each_step(plain_circuit(chance, 3, 9, words))

    def test_each_one_leaves_a_circuit_that_is_alike(self):
        chance = random.Random(303)
        tried = {2: 0, 3: 0}
        for many in (1, 2, 3):
            for words in (tuple(TABLE), ("h", "x", "z", "y"), ("h", "z"), ("s", "r", "t", "u", "z")):
                for _ in range(5):
                    circuit = plain_circuit(chance, many, 10, [word for word in words if WIRES_OF[word] <= many])
                    for step in all_steps(pairs_of(circuit)):
                        self.assert_alike(circuit, stepped(circuit, step))
                        tried[len(step)] += 1
        self.assertGreater(tried[2], 30)
        self.assertGreater(tried[3], 5)

    def test_of_60_rows(self):
        circuit = Circuit(2, [X(0)] + [T(1)] * 58 + [Y(0)])
        self.assertEqual(stepped(circuit, (0, 59)).told(), ("t 1",) * 58 + ("z 0",))
        self.assertEqual(len(stepped(circuit, (57, 58)).rows()), 59)
        for step in ((0, 58), (0, 60), (59, 60), (1, 3), (0, 57, 59)):
            self.assertIs(can_step(circuit, step), False)

    def test_without_rows(self):
        for many in range(1, 6):
            for step in NO_STEPS + ((0, 1), (0, 1, 2)):
                self.assertIs(can_step(Circuit(many, []), step), False)
                with self.assertRaises(NoRow):
                    stepped(Circuit(many, []), step)


class NoSteps(unittest.TestCase):
    def test_whatever_thing(self):
        # All gates here meet the next one of their wire, and come to nothing with it.
        for circuit in (Circuit(1, [X(0)] * 6), Circuit(1, [H(0), X(0)] * 3), Circuit(2, [X(0), X(1)] * 3)):
            for step in NO_STEPS:
                with self.subTest(step=step):
                    self.assertIs(can_step(circuit, step), False)
                    with self.assertRaises(NoRow):
                        stepped(circuit, step)

    def test_what_is_no_number_at_each_place(self):
        circuit = Circuit(1, [H(0), X(0), H(0), H(0)])
        self.assertIs(can_step(circuit, (0, 1, 2)), True)
        self.assertIs(can_step(circuit, (2, 3)), True)
        self.assertIs(can_step(Circuit(1, [X(0)] * 4), (0, 1)), True)
        for thing in NO_NUMBERS + (4, 5, -1, 10 ** 30):
            for step in ((thing, 1, 2), (0, thing, 2), (0, 1, thing), (2, thing), (thing, 3)):
                with self.subTest(step=step):
                    self.assertIs(can_step(circuit, step), False)
                    with self.assertRaises(NoRow):
                        stepped(circuit, step)
        for step in ((0, True), (False, 1), (False, True), (True, 2), (0, True, 2), (False, 1, 2)):
            self.assertIs(can_step(Circuit(1, [X(0)] * 4), step), False)
            self.assertIs(can_step(circuit, step), False)

    def test_too_few_and_too_many(self):
        circuit = Circuit(1, [H(0), X(0), H(0), H(0), H(0)])
        for step in ((), (0,), (2,), (0, 1, 2, 3), (0, 1, 2, 3, 4), (2, 3, 4)):
            self.assertIs(can_step(circuit, step), False)
            with self.assertRaises(NoRow):
                stepped(circuit, step)


class Shortened(StepTest):
    def test_told_by_hand(self):
        for many, text, left, steps in (
            (1, "x 0", "x 0", []),
            (1, "x 0, x 0", "", [(0, 1)]),
            (1, "h 0, x 0, h 0", "z 0", [(0, 1, 2)]),
            (1, "h 0, x 0, h 0, h 0", "z 0, h 0", [(0, 1, 2)]),
            (1, "t 0, t 0, t 0, t 0", "z 0", [(0, 1), (1, 2), (0, 1)]),
            (1, "x 0, y 0, z 0", "", [(0, 1), (0, 1)]),
            (1, "t 0, s 0", "t 0, s 0", []),
            (2, "h 0, x 1, h 0", "x 1", [(0, 2)]),
            (2, "cx 0 1, x 1, x 1, cx 0 1", "", [(1, 2), (0, 1)]),
            (2, "x 0, h 1, y 0, z 1, h 1", "z 0, x 1", [(0, 2), (0, 2, 3)]),
        ):
            circuit = gates_of(many, text)
            found, told = self.assert_shortened(circuit)
            self.assertEqual((", ".join(found.told()), told), (left, steps), text)

    def test_without_rows(self):
        for many in range(1, 6):
            found, steps = shortened(Circuit(many, []))
            self.assertEqual((found.many(), found.told(), steps), (many, (), []))

    def test_nothing_left(self):
        chance = random.Random(304)
        for many in range(1, 6):
            circuit = plain_circuit(chance, many, 20)
            found, steps = shortened(circuit.then(circuit.back()))
            self.assertEqual(held(found, Circuit(many, [])), ("alike", held(circuit.then(circuit.back()), found)[1]))
            self.assertGreater(len(steps), 0)
        for many in range(3, 6):
            rows = [H(0), Cx(0, 1), Ccx(2, 0, 1), Swap(1, 2), T(2), Cz(0, 2), U(0)]
            circuit = Circuit(many, rows)
            found, steps = self.assert_shortened(circuit.then(circuit.back()))
            self.assertEqual((found.told(), len(steps)), ((), 7))

    def test_the_least_step_first(self):
        # Two steps of the same two first places: the one of two places is less.
        for text, steps in (
            ("h 0, x 0, h 0, x 1, x 1", [(0, 1, 2), (1, 2)]), ("x 1, h 0, x 0, h 0, x 1", [(0, 4), (0, 1, 2)]),
            ("x 1, x 0, x 0, x 1", [(0, 3), (0, 1)]), ("h 0, z 0, z 0, h 0", [(1, 2), (0, 1)]),
            ("h 0, x 0, y 0, h 0", [(1, 2), (0, 1, 2)]), ("s 0, s 0, z 0", [(0, 1), (0, 1)]), ("z 0, s 0, s 0", [(0, 1), (0, 1)]),
        ):
            self.assertEqual(self.assert_shortened(gates_of(2, text))[1], steps, text)

    def test_drawn_circuits(self):
        chance = random.Random(305)
        for many in range(1, 6):
            for words in (tuple(TABLE), ("h", "x", "z", "y"), ("s", "r", "t", "u", "z", "h"), ("cx", "cz", "swap", "ccx", "x")):
                for rows in (3, 9, 14):
                    circuit = plain_circuit(chance, many, rows, [word for word in words if WIRES_OF[word] <= many])
                    with self.subTest(circuit=circuit.told()):
                        left, steps = self.assert_shortened(circuit)
                        self.assertEqual(all_steps(pairs_of(left)), [])
                        self.assertEqual(held(circuit, left)[0], "alike")
                        self.assert_done_again(circuit, left, steps)

    def assert_done_again(self, circuit, left, steps):
        """The steps done one by one lead there, too."""
        for step in steps:
            self.assertIs(can_step(circuit, step), True)
            circuit = stepped(circuit, step)
        self.assertEqual(circuit.told(), left.told())

    def test_of_60_rows(self):
        for rows, left, count in (
            ([X(0)] * 60, (), 30), ([T(0)] * 60, ("z 0",), 52), ([H(0), Y(0)] * 30, (), 30), ([Cz(0, 1), Cz(1, 0)] * 30, (), 30),
        ):
            found, steps = shortened(Circuit(2, rows))
            self.assertEqual((found.told(), len(steps)), (left, count))
            self.assert_done_again(Circuit(2, rows), found, steps)

    def test_each_step_leaves_fewer_gates(self):
        chance = random.Random(306)
        for many in range(1, 6):
            circuit = plain_circuit(chance, many, 60)
            left, steps = shortened(circuit)
            self.assertLessEqual(len(left.rows()) + len(steps), 60)
            self.assert_done_again(circuit, left, steps)

    def test_shortened_once_more(self):
        chance = random.Random(307)
        for many in range(1, 6):
            left, _ = shortened(plain_circuit(chance, many, 40))
            again, steps = shortened(left)
            self.assertEqual((again.told(), steps), (left.told(), []))


class Refused(unittest.TestCase):
    def assert_refused(self, thing):
        for step in NO_STEPS[:6] + ((0, 1), (0, 1, 2), (5, 4)):
            with self.assertRaises(NoCircuit):
                can_step(thing, step)
            with self.assertRaises(NoCircuit):
                stepped(thing, step)
        with self.assertRaises(NoCircuit):
            shortened(thing)

    def test_what_is_no_circuit(self):
        for thing in NO_CIRCUITS + (begun(1, 0), [X(0), X(0)]):
            with self.subTest(thing=thing):
                self.assert_refused(thing)

    def test_circuits_that_read_or_ask(self):
        for rows in READING:
            with self.subTest(rows=Circuit(2, rows).told()):
                self.assert_refused(Circuit(2, rows))


class AskersOwn(unittest.TestCase):
    def test_what_is_told_is_free(self):
        rows = [X(0), Y(0), S(1), R(1), T(0), U(1), Z(0), H(1)]
        circuit = Circuit(2, rows)
        rows.clear()
        left, steps = shortened(circuit)
        expected = (left.told(), list(steps))
        left.rows().clear()
        steps.clear()
        again = shortened(circuit)
        self.assertEqual((again[0].told(), again[1]), expected)
        stepped(circuit, (0, 1)).rows().clear()
        self.assertEqual(stepped(circuit, (0, 1)).told(), ("z 0", "s 1", "r 1", "t 0", "u 1", "z 0", "h 1"))
        self.assertEqual(circuit.told(), ("x 0", "y 0", "s 1", "r 1", "t 0", "u 1", "z 0", "h 1"))

    def test_what_can_not_be_done_changes_nothing(self):
        circuit = Circuit(1, [X(0), H(0)])
        with self.assertRaises(NoRow):
            stepped(circuit, (0, 1))
        self.assertEqual(circuit.told(), ("x 0", "h 0"))
        self.assertEqual(shortened(circuit)[1], [])


if __name__ == "__main__":
    unittest.main()
