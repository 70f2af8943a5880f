"""Promises 1 and 2 over the whole program: what one part tells of a thing goes with what the others tell of it."""

import random
import unittest

from bothwire.alike import held, input_of
from bothwire.circuits import Circuit
from bothwire.codes import Code
from bothwire.desk import Desk
from bothwire.lengths import length_sum
from bothwire.mends import errors, mended, mends
from bothwire.runs import columns, run
from bothwire.shorter import shortened
from bothwire.signs import done
from bothwire.states import State, begun
from bothwire.tableruns import table_run
from bothwire.texts import read, written
from bothwire.turnings import turning_circuit, turning_of
from tests.codeoracle import state_of_code
from tests.draws import mixed_circuit, plain_circuit
from tests.stateoracle import BIT_WORDS, QUARTER_WORDS, WIRES_OF, small_state
from tests.test_codes import drawn_rows


class Whole(unittest.TestCase):
    def test_a_what_is_undone_is_given_back(self):
        chance = random.Random(801)
        for many in range(1, 6):
            circuit, state = plain_circuit(chance, many, 20), small_state(many, 801 + many)
            left = run(read(written(circuit)), state)[0][1]
            self.assertEqual(left.length(), state.length())
            self.assertIsNotNone(run(shortened(circuit)[0].back(), left)[0][1].turn_to(state))
            self.assertEqual(run(circuit.back(), left)[0][1].eighths(), state.eighths())

    def test_b_branches_have_all_of_the_length(self):
        chance = random.Random(802)
        for many in range(1, 6):
            circuit, state = mixed_circuit(chance, many, 20, 4), small_state(many, 802 + many)
            branches = run(read(written(circuit)), state)
            self.assertEqual(length_sum([left.length() for _, left in branches]), state.length())

    def test_c_tables_and_numbers_at_the_desk(self):
        chance = random.Random(803)
        for many in range(1, 6):
            circuit = mixed_circuit(chance, many, 20, 3, QUARTER_WORDS)
            asked = ["circuit a"] + written(circuit).split("\n")[:-1] + ["over", "run a 0", "table a"]
            told_run, told_table = Desk().play(asked)[-2:]
            chances = {}
            for branch in told_run.split("; "):
                bits, length = branch.split(" ")
                chances[bits] = length
            tables = [branch.split(" ")[0].split("/") for branch in told_table.split("; ")]
            self.assertEqual({bits: "1" if k == "0" else f"1/{2 ** int(k)}" for bits, k in tables}, chances)
            for (bits, k, table), (other_bits, left) in zip(table_run(circuit), run(circuit, begun(many, 0))):
                self.assertEqual((bits, (1, 0, k), True), (other_bits, left.length(), table.holds(left)))

    def test_d_and_e_shortened_circuits_are_alike_and_others_are_parted(self):
        chance = random.Random(804)
        for many in range(1, 5):
            for _ in range(6):
                circuit = plain_circuit(chance, many, 15)
                left, steps = shortened(circuit)
                told, turn = held(circuit, left)
                self.assertEqual(told, "alike")
                self.assertLessEqual(len(left.rows()), len(circuit.rows()) - len(steps))
                state = small_state(many, chance.randrange(1000))
                self.assertIn(turn, (run(circuit, state)[0][1].turn_to(run(left, state)[0][1]), None))
                other = plain_circuit(chance, many, 1)
                found = held(circuit, left.then(other))
                if found[0] == "parted":
                    own = input_of(many, found[1])
                    self.assertIsNone(run(circuit, own)[0][1].turn_to(run(left.then(other), own)[0][1]))

    def test_f_turnings_joined_and_undone(self):
        chance = random.Random(805)
        for many in (1, 2, 3):
            for _ in range(10):
                one, other = list(range(2 ** many)), list(range(2 ** many))
                chance.shuffle(one)
                chance.shuffle(other)
                both = turning_circuit(one).then(turning_circuit(other))
                self.assertEqual(turning_of(both), [other[row] for row in one])
                self.assertEqual(turning_of(turning_circuit(one).back()), [one.index(row) for row in range(2 ** many)])
                self.assertEqual(held(both, turning_circuit([other[row] for row in one])), ("alike", 0))

    def test_f_of_drawn_circuits_of_bit_gates(self):
        chance = random.Random(806)
        for many in (1, 2, 3):
            words = [word for word in BIT_WORDS if WIRES_OF[word] <= many]
            circuit = plain_circuit(chance, many, 25, words)
            again = turning_circuit(turning_of(circuit))
            self.assertEqual(held(circuit, again), ("alike", 0))
            self.assertEqual([own.eighths() for own in columns(circuit)], [own.eighths() for own in columns(again)])

    def test_g_each_code_mends_or_two_errors_clash(self):
        for at, rows in enumerate(drawn_rows(807, 1)):
            code = Code(rows)
            state = state_of_code(rows, at)
            found = mends(code, 1)
            if found[0] == "mends":
                for error in errors(code.many(), 1):
                    self.assertIsNotNone(state.turn_to(mended(code, found[1], done(error, state))))
            else:
                self.assertEqual(code.signs(found[1]), code.signs(found[2]))
                self.assertFalse(code.same(found[1], found[2]))

    def test_what_was_made_of_things_that_changed_since(self):
        eighths = begun(1, 0).eighths()
        state = State(eighths)
        rows = read("wires 1\nh 0\nread 0 a\n").rows()
        circuit = Circuit(1, rows)
        told = [(bits, left.eighths()) for bits, left in run(circuit, state)]
        eighths[0] = eighths[1]
        rows.clear()
        circuit.rows().reverse()
        state.eighths().reverse()
        self.assertEqual([(bits, left.eighths()) for bits, left in run(circuit, state)], told)


if __name__ == "__main__":
    unittest.main()
