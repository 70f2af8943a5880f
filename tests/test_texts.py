"""Promise 10: texts of circuits, read and written."""

import random
import unittest

from bothwire.circuits import Asking, Circuit, Reading
from bothwire.errors import NoText, TooMany, WireError
from bothwire.gates import Ccx, Cx, H, Swap, T, X, gate_of
from bothwire.texts import read, written
from tests.stateoracle import BACK_WORDS, WIRES_OF, each_gate
from tests.things import Odd


def text_of(rows):
    """A text of rows, a line feed behind each."""
    return "".join(row + "\n" for row in rows)


def placed(gates, wires):
    """The texts of gates, put on other wires."""
    found = []
    for text in gates:
        words = text.split(" ")
        found.append(" ".join([words[0]] + [str(wires[int(word)]) for word in words[1:]]))
    return found


def undone(gates):
    """The texts of the gates that undo these, the last one first."""
    return [BACK_WORDS[text.split(" ")[0]] + text[text.index(" "):] for text in reversed(gates)]


class ReadTest(unittest.TestCase):
    def assert_read(self, text, many, told):
        """The text is read as a circuit of so many wires and these rows."""
        circuit = read(text)
        self.assertIsInstance(circuit, Circuit)
        self.assertEqual(circuit.many(), many)
        self.assertEqual(circuit.told(), tuple(told))

    def assert_refused(self, text, row):
        """The text is refused with the number of a row."""
        with self.assertRaises(NoText) as caught:
            read(text)
        self.assertEqual(caught.exception.row, row, text)
        self.assertIs(caught.exception.row.__class__, int)

    def assert_row_refused(self, ahead, row):
        """The row is the first one that is refused behind those ahead, whatever stands behind it."""
        for behind in ([], ["x 0"], ["end"], ["nonsense", "wires 1"], ["x 0"] * 70):
            self.assert_refused(text_of(ahead + [row] + behind), len(ahead) + 1)
        self.assert_refused("\n".join(ahead + [row]), len(ahead) + 1)


class Plain(ReadTest):
    def test_each_gate(self):
        for many in range(1, 6):
            for word, wires in each_gate(many):
                row = gate_of(word, wires).text()
                self.assert_read(text_of(["wires " + str(many), row]), many, [row])

    def test_without_rows(self):
        for many in range(1, 6):
            self.assert_read("wires " + str(many) + "\n", many, [])
            self.assert_read("wires " + str(many), many, [])

    def test_readings_and_asking_gates(self):
        rows = [
            "h 0", "read 0 a", "if a 1 x 2", "read 2 abcdefgh", "if abcdefgh 0 ccx 2 1 0", "if a 0 swap 1 2",
            "read 1 read", "if read 1 h 0", "read 0 if", "if if 0 x 0",
        ]
        self.assert_read(text_of(["wires 3"] + rows), 3, rows)
        circuit = read(text_of(["wires 3"] + rows))
        self.assertEqual(circuit.bits(), ("a", "abcdefgh", "read", "if"))
        found = circuit.rows()
        self.assertIsInstance(found[0], H)
        self.assertIsInstance(found[1], Reading)
        self.assertEqual((found[1].wire, found[1].bit), (0, "a"))
        self.assertIsInstance(found[4], Asking)
        self.assertEqual((found[4].bit, found[4].value), ("abcdefgh", 0))
        self.assertEqual((found[4].gate.word(), found[4].gate.wires()), ("ccx", (2, 1, 0)))

    def test_blanks(self):
        self.assert_read("   wires   2  \n  cx    1 0\n   read 0    ab   \nif   ab  1   x   1 \n", 2, [
            "cx 1 0", "read 0 ab", "if ab 1 x 1",
        ])
        self.assert_read(" circuit".join(["wires 1\n", "  a  1  \n x  0 \n  end  \n  do   a   0   \n undo  a 0\n"]), 1, [
            "x 0", "x 0",
        ])

    def test_rows_without_words(self):
        self.assert_read("\n\n   \n# only a remark\n   # another\n#\n\nwires 1\n\nx 0\n  \n\n", 1, ["x 0"])
        self.assert_read("\nwires 1", 1, [])

    def test_remarks(self):
        self.assert_read("wires 2# two\nx 0#here\ncx 0 1 # x 1 # y 1\n#x 0\nread 0 a#b\nif a 1 z 1# 0\n#", 2, [
            "x 0", "cx 0 1", "read 0 a", "if a 1 z 1",
        ])
        self.assert_read("wires 1\ncircuit a 1 # told\nend# over\ncircuit b 1#\nx 0\nend\ndo b 0# done\nundo a 0#", 1, ["x 0"])
        self.assert_read("wires 1\nx 0\n# circuit a 1\n# end\n## wires 2 !\"$&'()*+,-./:;<=>?@[]^_`{|}~", 1, ["x 0"])

    def test_without_a_last_line_feed(self):
        self.assert_read("wires 2\ncx 0 1", 2, ["cx 0 1"])
        self.assert_read("wires 2\ncircuit a 1\nend", 2, [])

    def test_remarks_cut_rows_short(self):
        self.assert_refused("wires# 1\n", 1)
        self.assert_refused("wires 2\nx# 0\n", 2)
        self.assert_refused("wires 2\ncx 0# 1\n", 2)
        self.assert_refused("wires 2\nread 0 a\nif a 1 # x 0\n", 3)

    def test_just_4000_signs(self):
        ahead = "wires 1\nx 0\n#"
        text = ahead + "-" * (4000 - len(ahead))
        self.assertEqual(len(text), 4000)
        self.assert_read(text, 1, ["x 0"])
        self.assert_refused(text + "-", 0)
        rows = "wires 1\nx 0\n"
        self.assert_read(rows + "\n" * (4000 - len(rows)), 1, ["x 0"])
        self.assert_refused(rows + "\n" * (4001 - len(rows)), 0)


class Parts(ReadTest):
    def test_done(self):
        rows = ["wires 3", "circuit a 2", "h 0", "cx 0 1", "t 1", "end", "do a 2 0", "do a 0 1"]
        self.assert_read(text_of(rows), 3, ["h 2", "cx 2 0", "t 0", "h 0", "cx 0 1", "t 1"])

    def test_undone(self):
        rows = ["wires 3", "circuit a 2", "h 0", "cx 0 1", "t 1", "s 0", "end", "undo a 2 0"]
        self.assert_read(text_of(rows), 3, ["r 2", "u 0", "cx 2 0", "h 2"])

    def test_within_one_another(self):
        rows = [
            "wires 4", "circuit a 2", "cx 0 1", "t 0", "end", "circuit b 3", "do a 2 0", "y 1", "undo a 1 2", "end",
            "do b 3 1 0", "undo b 0 1 2",
        ]
        b = ["cx 2 0", "t 2", "y 1", "u 1", "cx 1 2"]
        self.assert_read(text_of(rows), 4, placed(b, (3, 1, 0)) + placed(undone(b), (0, 1, 2)))

    def test_undo_of_one_that_undoes_another(self):
        rows = [
            "wires 2", "circuit a 1", "s 0", "t 0", "h 0", "end", "circuit b 1", "undo a 0", "end",
            "undo b 1", "do b 1",
        ]
        self.assert_read(text_of(rows), 2, ["s 1", "t 1", "h 1", "h 1", "u 1", "r 1"])

    def test_each_gate_on_other_wires(self):
        for word, wires in each_gate(3):
            row = gate_of(word, wires).text()
            for onto in ((4, 0, 2), (0, 1, 2), (1, 3, 4)):
                rows = ["wires 5", "circuit abc 3", row, "end"]
                on = " ".join(str(wire) for wire in onto)
                self.assert_read(text_of(rows + ["do abc " + on]), 5, placed([row], onto))
                self.assert_read(text_of(rows + ["undo abc " + on]), 5, placed(undone([row]), onto))

    def test_told_and_never_done(self):
        rows = ["wires 1", "circuit a 5", "ccx 4 3 2", "end", "x 0"]
        self.assert_read(text_of(rows), 1, ["x 0"])

    def test_told_between_rows(self):
        rows = ["wires 2", "x 0", "circuit a 1", "y 0", "end", "z 1", "do a 1", "circuit b 1", "do a 0", "end", "do b 0"]
        self.assert_read(text_of(rows), 2, ["x 0", "z 1", "y 1", "y 0"])

    def test_an_empty_one(self):
        rows = ["wires 2", "circuit a 2", "end", "do a 1 0", "undo a 0 1", "circuit b 1", "end", "x 1", "do b 0"]
        self.assert_read(text_of(rows), 2, ["x 1"])

    def test_names_may_be_those_of_bits_and_words(self):
        rows = [
            "wires 1", "read 0 a", "circuit a 1", "x 0", "end", "do a 0", "if a 1 x 0",
            "circuit b 1", "y 0", "end", "read 0 b", "undo b 0", "if b 0 z 0",
        ]
        self.assert_read(text_of(rows), 1, ["read 0 a", "x 0", "if a 1 x 0", "read 0 b", "y 0", "if b 0 z 0"])
        for name in ("x", "end", "do", "undo", "circuit", "read", "if", "wires", "abcdefgh", "z"):
            rows = ["wires 1", "circuit " + name + " 1", "t 0", "end", "do " + name + " 0", "undo " + name + " 0"]
            self.assert_read(text_of(rows), 1, ["t 0", "u 0"])

    def test_readings_and_asking_gates_beside_parts(self):
        rows = ["wires 2", "read 0 a", "circuit p 1", "x 0", "end", "do p 1", "if a 1 x 0", "read 1 b", "do p 0"]
        self.assert_read(text_of(rows), 2, ["read 0 a", "x 1", "if a 1 x 0", "read 1 b", "x 0"])

    def test_mixed_ones(self):
        for seed in range(150):
            rows, many, told = mixed_text(random.Random(seed))
            with self.subTest(seed=seed):
                self.assert_read("\n".join(rows), many, told)


class HowMany(ReadTest):
    def test_just_60_rows_put_in_place(self):
        self.assert_read(text_of(["wires 1"] + ["x 0"] * 60), 1, ["x 0"] * 60)
        part = ["wires 1", "circuit a 1"] + ["t 0"] * 20 + ["end"]
        self.assert_read(text_of(part + ["do a 0"] * 3), 1, ["t 0"] * 60)
        self.assert_read(text_of(part + ["do a 0", "undo a 0"] + ["x 0"] * 20), 1, ["t 0"] * 20 + ["u 0"] * 20 + ["x 0"] * 20)

    def test_61_rows_put_in_place(self):
        part = ["wires 1", "circuit a 1"] + ["t 0"] * 20 + ["end"]
        for rows in (
            ["wires 1"] + ["x 0"] * 61,
            part + ["do a 0"] * 3 + ["x 0"],
            part + ["x 0"] + ["undo a 0"] * 3,
            part + ["do a 0"] * 4,
            ["wires 1", "read 0 a"] + ["if a 1 x 0"] * 60,
        ):
            with self.assertRaises(TooMany):
                read(text_of(rows))

    def test_a_circuit_of_more_rows_that_is_not_done(self):
        part = ["wires 1", "circuit a 1"] + ["t 0"] * 61 + ["end", "circuit b 1", "do a 0", "do a 0", "end"]
        self.assert_read(text_of(part + ["x 0"]), 1, ["x 0"])
        for word in ("do", "undo"):
            for name in ("a", "b"):
                with self.assertRaises(TooMany):
                    read(text_of(part + [word + " " + name + " 0"]))

    def test_circuits_that_grow_beyond_all_bounds(self):
        names = [first + second for first in "abcde" for second in "abcdef"]
        rows = ["wires 1", "circuit first 1", "h 0", "end"]
        last = "first"
        for name in names:
            rows += ["circuit " + name + " 1"] + ["do " + last + " 0"] * 7 + ["undo " + last + " 0", "end"]
            last = name
        self.assertLess(len(text_of(rows)), 3900)
        self.assert_read(text_of(rows + ["x 0"]), 1, ["x 0"])
        with self.assertRaises(TooMany):
            read(text_of(rows + ["do " + last + " 0"]))
        self.assert_refused(text_of(rows + ["do " + last + " 0", "x 1"]), len(rows) + 2)

    def test_readings(self):
        five = ["read 0 " + bit for bit in "abcde"]
        self.assert_read(text_of(["wires 1"] + five), 1, five)
        with self.assertRaises(TooMany):
            read(text_of(["wires 1"] + five + ["read 0 f"]))

    def test_readings_behind_sixty_rows_are_asked(self):
        for word in ("do", "undo"):
            for gates in (1, 7, 20, 30, 40, 59, 60, 61):
                for count in (1, 2, 3, 5, 6):
                    rows = ["wires 2", "circuit a 1"] + ["x 0"] * gates + ["end"] + [word + " a 1"] * 60
                    for bit in "bcdefg"[:count]:
                        rows += ["read 0 " + bit, word + " a 0", word + " a 1"]
                    asking = ["if " + bit + " 1 x 1" for bit in "bcdefg"[:count]]
                    with self.assertRaises(TooMany):
                        read(text_of(rows + asking))
                    with self.assertRaises(TooMany):
                        read(text_of(rows + asking + [word + " a 1"] + asking))
                    # A bit that was never read, and one that is read twice, are refused as ever.
                    self.assert_refused(text_of(rows + asking + ["if z 1 x 1"]), len(rows + asking) + 1)
                    self.assert_refused(text_of(rows + asking + ["read 1 b"]), len(rows + asking) + 1)

    def test_just_sixty_rows_with_readings_among_them(self):
        rows = ["wires 1", "circuit a 1"] + ["x 0"] * 28 + ["end", "do a 0", "read 0 b", "undo a 0", "if b 1 x 0"]
        told = ["x 0"] * 28 + ["read 0 b"] + ["x 0"] * 28 + ["if b 1 x 0"]
        self.assert_read(text_of(rows + ["x 0", "x 0"]), 1, told + ["x 0", "x 0"])
        for row in ("x 0", "do a 0", "read 0 c", "if b 0 x 0"):
            with self.assertRaises(TooMany):
                read(text_of(rows + ["x 0", "x 0", row]))

    def test_only_where_no_row_is_wrong(self):
        many = ["wires 1"] + ["x 0"] * 61
        self.assert_refused(text_of(many + ["x 1"]), 63)
        self.assert_refused(text_of(many + ["circuit a 1"]), 65)
        self.assert_refused(text_of(["wires 1", "x 1"] + ["x 0"] * 61), 2)
        readings = ["wires 1"] + ["read 0 " + bit for bit in "abcdef"]
        self.assert_refused(text_of(readings + ["read 0 a"]), 8)
        self.assert_refused(text_of(readings + ["if g 1 x 0"]), 8)
        with self.assertRaises(TooMany):
            read(text_of(readings + ["if f 1 x 0"]))
        part = ["wires 1", "circuit a 1"] + ["t 0"] * 61 + ["end", "do a 0"]
        self.assert_refused(text_of(part + ["do b 0"]), len(part) + 1)
        self.assert_refused(text_of(part + ["read 0 a", "if b 0 x 0"]), len(part) + 2)


class Refused(ReadTest):
    def test_what_is_no_text(self):
        for thing in (None, 1, True, b"wires 1\n", ["wires 1"], ("wires 1",), {}, Odd(), Circuit(1, []), str):
            self.assert_refused(thing, 0)

    def test_more_than_4000_signs_whatever_else_is_wrong(self):
        for text in ("#" * 4001, " " * 4001, "\n" * 4001, "x" * 4001, "nonsense\n" * 500, "wires 1\n" + "x 0\n" * 1000):
            self.assert_refused(text, 0)
        self.assert_refused("nonsense\n" * 444 + "----", 1)

    def test_without_any_word(self):
        # One more than how many rows there are; rows are what stands between line feeds.
        for text, rows in (("", 1), ("   ", 1), ("# wires 1", 1), ("\n", 2), ("\n\n\n", 4), ("  \n # x\n", 3), ("#\n#", 2)):
            self.assert_refused(text, rows + 1)

    def test_an_end_lacks(self):
        for text, rows in (
            ("wires 1\ncircuit a 1", 2), ("wires 1\ncircuit a 1\n", 3), ("wires 2\ncircuit a 2\nx 0\nx 1", 4),
            ("wires 1\ncircuit a 1\nend\ncircuit b 1\n# end\n", 6), ("wires 1\ncircuit a 1\n\n\n", 5),
        ):
            self.assert_refused(text, rows + 1)

    def test_the_first_row(self):
        for row in (
            "wires", "wires 0", "wires 6", "wires 9", "wires 1 1", "wires 01", "wires 11", "wires +1", "wires -1",
            "wires one", "wires a", "wires 1\t", "wires\t1", "\twires 1", "Wires 1", "wire 1", "wires1", "\t", "x 0", "end",
            "read 0 a", "circuit a 1", "do a 0", "1", "wires 1 x", "wires 1.", "wires 1,",
        ):
            with self.subTest(row=row):
                self.assert_row_refused([], row)
                self.assert_row_refused(["", "# x", "   "], row)

    def test_wires_twice_or_not_first(self):
        for row in ("wires 1", "wires 2", "wires 3"):
            self.assert_row_refused(["wires 2"], row)
            self.assert_row_refused(["wires 2", "x 0"], row)
            self.assert_row_refused(["wires 2", "circuit a 1"], row)
        self.assert_refused("x 0\nwires 1\n", 1)
        self.assert_refused("\ncircuit a 1\nend\nwires 1\n", 2)

    def test_gates(self):
        for word, count in WIRES_OF.items():
            wires = ["0", "1", "2"][:count]
            wrong = [[], wires[:-1], wires + ["3"], wires + ["0"], wires + ["x"], wires + [""] * 2 + ["9"]]
            for place in range(count):
                for other in ("4", "5", "9", "00", "01", "10", "+0", "-1", "a", "x", "0,", "0\t", "", "0.0"):
                    wrong.append(wires[:place] + [other] + wires[place + 1:])
            for at in range(count):
                for place in range(count):
                    if at != place:
                        wrong.append(wires[:place] + [wires[at]] + wires[place + 1:])
            for words in wrong:
                row = " ".join([word] + words)
                with self.subTest(row=row):
                    self.assert_row_refused(["wires 4"], row)
                    self.assert_row_refused(["wires 1", "circuit a 4"], row)
                    self.assert_row_refused(["wires 4", "read 0 a"], "if a 1 " + row)

    def test_words_that_are_none(self):
        for row in (
            "X 0", "xx 0", "cy 0 1", "0", "0 x", "x0", "x\t0", "x 0\t", "\tx 0", "\t", "\t# x", "i 0", "nothing", "gate x 0",
            "END", "Do a 0", "dO a 0", "Read 0 b", "IF a 1 x 0", "Circuit b 1", "over", "-", "x 0;", "x,0", "! 0",
        ):
            with self.subTest(row=row):
                self.assert_row_refused(["wires 2", "read 0 a"], row)
                self.assert_row_refused(["wires 2", "circuit a 1"], row)

    def test_readings(self):
        for row in (
            "read", "read 0", "read a", "read 0 b c", "read 0 b 1", "read 2 b", "read 9 b", "read 00 b", "read 10 b", "read -1 b",
            "read +1 b", "read b 0", "read 0 B", "read 0 bA", "read 0 abcdefghi", "read 0 b1", "read 0 1", "read 0 b_c",
            "read 0 a", "read 1 a", "read\t0 b", "read 0\tb", "read 0 b\t", "read 0 b.", "read 0 -", "read 1 abcdefgha",
        ):
            with self.subTest(row=row):
                self.assert_row_refused(["wires 2", "read 0 a", "x 0"], row)

    def test_asking_gates(self):
        for row in (
            "if", "if a", "if a 1", "if a 1 x", "if a x 0", "if 1 x 0", "if a 2 x 0", "if a 9 x 0", "if a 01 x 0", "if a 00 x 0",
            "if a -1 x 0", "if a +1 x 0", "if a b x 0", "if b 1 x 0", "if A 1 x 0", "if aa 1 x 0", "if abcdefghi 1 x 0",
            "if a 1 x 0 1", "if a 1 x 2", "if a 1 cx 0 0", "if a 1 read 0 b", "if a 1 read 0", "if a 1 do p 0", "if a 1 undo p 0",
            "if a 1 p 0", "if a 1 if a 1 x 0", "if a 1 end", "if a 1 circuit q 1", "if a 1 wires 2", "if a 1\tx 0",
            "if a 1 x 0\t", "if p 1 x 0", "if a 0 0 x 0", "if a a x 0", "if 0 a x 0",
        ):
            with self.subTest(row=row):
                self.assert_row_refused(["wires 2", "read 0 a", "circuit p 1", "x 0", "end"], row)

    def test_bits_asked_ahead_of_their_reading(self):
        self.assert_refused("wires 1\nif a 1 x 0\nread 0 a\n", 2)
        self.assert_refused("wires 1\nread 0 b\nif a 1 x 0\nread 0 a\n", 3)
        self.assert_read("wires 1\nread 0 a\nif a 1 x 0\n", 1, ["read 0 a", "if a 1 x 0"])

    def test_readings_and_asking_gates_within_a_circuit(self):
        ahead = ["wires 2", "read 0 a", "circuit p 2", "x 0"]
        for row in ("read 0 b", "read 1 c", "if a 1 x 0", "if a 0 x 1", "read 0 a", "if b 1 x 0"):
            self.assert_row_refused(ahead, row)

    def test_a_circuit_within_a_circuit(self):
        for row in ("circuit b 1", "circuit a 1", "circuit"):
            self.assert_row_refused(["wires 2", "circuit a 1"], row)
            self.assert_row_refused(["wires 2", "circuit a 1", "x 0"], row)

    def test_circuits(self):
        for row in (
            "circuit", "circuit a", "circuit 1", "circuit b", "circuit b 1 1", "circuit b 1 x", "circuit b 0", "circuit b 6",
            "circuit b 9", "circuit b 01", "circuit b 11", "circuit b +1", "circuit b -1", "circuit b one", "circuit 1 b", "circuit B 1",
            "circuit bA 1", "circuit abcdefghi 1", "circuit b1 1", "circuit 1 1", "circuit b-c 1", "circuit b\t1", "circuit b 1\t",
            "circuit a 1", "circuit a 2", "circuit a 5",
        ):
            with self.subTest(row=row):
                self.assert_row_refused(["wires 2", "circuit a 1", "x 0", "end", "do a 0"], row)
                self.assert_row_refused(["wires 2", "circuit a 1", "end"], row)

    def test_ends(self):
        for row in ("end", "end a", "end end", "end 1"):
            self.assert_row_refused(["wires 1"], row)
            self.assert_row_refused(["wires 1", "circuit a 1", "end"], row)
        for row in ("end a", "end 1", "end end", "end\t", "ends"):
            self.assert_row_refused(["wires 1", "circuit a 1", "x 0"], row)

    def test_doings(self):
        ahead = ["wires 3", "circuit a 2", "cx 0 1", "end", "circuit one 1", "end", "read 0 bit"]
        for word in ("do", "undo"):
            for rest in (
                "", " a", " a 0", " a 0 1 2", " a 0 0", " a 2 2", " a 0 3", " a 3 0", " a 0 9", " a 9 0", " a 00 1", " a 0 01",
                " a 0 +1", " a 0 -1", " a 0 x", " a a 0", " 0 1", " 0 1 a", " b 0 1", " b", " A 0 1", " aa 0 1", " bit 0", " x 0",
                " one", " one 0 1", " one 3", " one 1 1", " abcdefghi 0", " a\t0 1", " a 0\t1", " a 0 1\t", " a,0,1", " do a 0 1",
            ):
                row = word + rest
                with self.subTest(row=row):
                    self.assert_row_refused(ahead, row)

    def test_doings_within_a_circuit(self):
        ahead = ["wires 5", "circuit a 2", "cx 0 1", "end", "circuit b 3", "do a 2 0"]
        for word in ("do", "undo"):
            for rest in (" b 0 1 2", " b", " c 0", " a 3 0", " a 0 3", " a 0", " a 0 1 2", " a 1 1", " a 4 0"):
                self.assert_row_refused(ahead, word + rest)
            self.assert_refused(text_of(ahead + [word + " c 0", "end", "circuit c 1", "end"]), 7)
        self.assert_refused(text_of(["wires 1", "do a 0", "circuit a 1", "end"]), 2)

    def test_the_first_wrong_row_is_told(self):
        self.assert_refused("wires 1\nx 0\nx 1\nx 2\n", 3)
        self.assert_refused("wires 1\n\n# one\nx 0\n\nnonsense\n\nx 1\n", 6)
        self.assert_refused("wires 1\ncircuit a 1\nx 1\n", 3)
        self.assert_refused("wires 1\ncircuit a 1\nread 0 b\nend\n", 3)

    def test_a_refusal_is_a_wire_error(self):
        with self.assertRaises(WireError):
            read("")


class Written(ReadTest):
    def test_told_by_hand(self):
        for circuit, text in (
            (Circuit(1, []), "wires 1\n"),
            (Circuit(5, [Ccx(4, 0, 2)]), "wires 5\nccx 4 0 2\n"),
            (
                Circuit(2, [H(0), Reading(0, "abcdefgh"), Asking("abcdefgh", 0, Cx(1, 0)), T(1), Swap(1, 0)]),
                "wires 2\nh 0\nread 0 abcdefgh\nif abcdefgh 0 cx 1 0\nt 1\nswap 1 0\n",
            ),
        ):
            self.assertEqual(written(circuit), text)

    def test_written_read_and_written_again(self):
        for seed in range(80):
            circuit = mixed_circuit(random.Random(seed))
            text = written(circuit)
            self.assertEqual(text, text_of(["wires " + str(circuit.many())] + list(circuit.told())))
            again = read(text)
            self.assertEqual((again.many(), again.told(), again.bits()), (circuit.many(), circuit.told(), circuit.bits()))
            self.assertEqual(written(again), text)

    def test_each_gate(self):
        for many in range(1, 6):
            for word, wires in each_gate(many):
                circuit = Circuit(many, [gate_of(word, wires)])
                self.assert_read(written(circuit), many, circuit.told())

    def test_of_60_rows(self):
        rows = [Reading(0, "abcdefgh")] + [Asking("abcdefgh", 1, Ccx(2, 1, 0))] * 59
        self.assertEqual(read(written(Circuit(3, rows))).told(), Circuit(3, rows).told())

    def test_of_a_text_with_circuits_within(self):
        text = "wires 2\ncircuit a 1\nt 0\nend\ndo a 1\nundo a 0\n"
        self.assertEqual(written(read(text)), "wires 2\nt 1\nu 0\n")

    def test_changes_nothing(self):
        rows = [X(0)]
        circuit = Circuit(1, rows)
        written(circuit)
        self.assertEqual(circuit.told(), ("x 0",))
        self.assertEqual(len(rows), 1)


def some_gate(chance, many):
    """The text of a gate on so many wires."""
    words = [word for word in sorted(WIRES_OF) if WIRES_OF[word] <= many]
    word = chance.choice(words)
    return " ".join([word] + [str(wire) for wire in chance.sample(range(many), WIRES_OF[word])])


def some_doing(chance, parts, many):
    """A row that does or undoes one of the parts that fit, and what comes of it; None where none fits."""
    fitting = [name for name in sorted(parts) if parts[name][0] <= many]
    if not fitting:
        return None
    name = chance.choice(fitting)
    wide, gates = parts[name]
    wires = chance.sample(range(many), wide)
    words = [chance.choice(("do", "undo")), name] + [str(wire) for wire in wires]
    gates = gates if words[0] == "do" else undone(gates)
    return " ".join(words), placed(gates, wires)


def mixed_gates(chance, parts, many):
    """Some rows of gates and doings, and what comes of them."""
    rows, told = [], []
    for _ in range(chance.randint(0, 3)):
        doing = some_doing(chance, parts, many) if chance.random() < 0.5 else None
        if doing is not None and len(doing[1]) <= 2:
            rows.append(doing[0])
            told.extend(doing[1])
        else:
            rows.append(some_gate(chance, many))
            told.append(rows[-1])
    return rows, told


def mixed_text(chance):
    """A text's rows with blanks, remarks and circuits within, its wires, and the rows that come of it."""
    many = chance.randint(1, 5)
    rows, told, bits, parts = ["wires " + str(many)], [], [], {}
    for name in ("p", "abcdefgh", "do", "a", "zz"):
        if chance.random() < 0.7:
            wide = chance.randint(1, 5)
            inner, gates = mixed_gates(chance, parts, wide)
            rows += ["circuit " + name + " " + str(wide)] + inner + ["end"]
            parts[name] = (wide, gates)
        if chance.random() < 0.5:
            rows.append("read " + str(chance.randrange(many)) + " " + name)
            told.append(rows[-1])
            bits.append(name)
        if bits and chance.random() < 0.6:
            rows.append(" ".join(["if", chance.choice(bits), chance.choice("01"), some_gate(chance, many)]))
            told.append(rows[-1])
        more, gates = mixed_gates(chance, parts, many)
        rows += more
        told += gates
    assert len(told) <= 60
    return mixed_blanks(chance, rows), many, told


def mixed_blanks(chance, rows):
    """The rows with blanks, remarks and rows without words among them."""
    found = []
    for row in rows:
        if chance.random() < 0.2:
            found.append(chance.choice(("", "   ", "# x 0", "  #")))
        words = [word + " " * chance.choice((1, 1, 2, 4)) for word in row.split(" ")]
        text = " " * chance.choice((0, 0, 1, 3)) + "".join(words)
        found.append(text.rstrip(" ") + chance.choice(("", "", "  ", "# end", " # x 9")))
    return found


def mixed_circuit(chance):
    """A circuit of rows of all sorts."""
    rows, many, told = mixed_text(chance)
    circuit = read("\n".join(rows))
    assert (circuit.many(), circuit.told()) == (many, tuple(told))
    return circuit


if __name__ == "__main__":
    unittest.main()
