"""Promises 27 and 28: the desk, its rows and their answers."""

import random
import unittest

from bothwire.alike import held
from bothwire.codes import Code
from bothwire.desk import Desk
from bothwire.errors import NoCircuit, NoCode, NoGate, NoRow, NoState, NoText, NoTurning, TooMany, WireError
from bothwire.lengths import length_text
from bothwire.mends import mends
from bothwire.runs import run
from bothwire.shorter import shortened
from bothwire.states import begun
from bothwire.tableruns import table_run
from bothwire.texts import read, written
from bothwire.turnings import turning_of
from tests.draws import mixed_circuit, plain_circuit
from tests.stateoracle import QUARTER_WORDS
from tests.test_codes import FIVE, FOUR, KNOWN, THRICE
from tests.test_signtables import sign_rows
from tests.things import Odd

NAMES = ("a", "b", "c", "abcdefgh", "over", "circuit", "none", "show")

NO_TEXTS = (None, 0, 1, True, b"show a", ["show", "a"], ("show a",), {}, Odd(), Desk)

# Words where a name is told that are no names; no blank stands in them, and all are there.
NO_NAME_WORDS = ("abcdefghi", "A", "aB", "a1", "1", "a_b", "a-b", "a\n", "a\t", "#", "#a", "abcdefgH", "-", "+x", "a;", "a.")

NO_NUMBER_WORDS = ("00", "01", "09", "000", "100", "-1", "+1", "-0", "1.", "a", "-", "0x", "1_0", "x1", "#", "1;", "1\t", "\n1")

NO_SIGNS_WORDS = ("xz", "x", "z", "+", "-", "++x", "+-x", "+X", "-Z", "+a", "+x1", "+x-", "x+", "*x", "1x", "+xzq", "0", "+xz+")

NO_BITS_WORDS = ("2", "02", "a", "--", "-0", "0-", "+", "0,1", "0x", "01;", "O", "1.", "#")


def signs_word(row):
    """The SIGNS of a sign row."""
    turn, xs, zs = row
    letters = {(0, 0): "i", (1, 0): "x", (1, 1): "y", (0, 1): "z"}
    return "+-"[turn] + "".join(letters[pair] for pair in zip(xs, zs))


def bits_word(bits):
    """The bits without anything between; - of none."""
    return "".join(str(bit) for bit in bits) or "-"


def text_rows(text):
    """The rows of a text of a circuit, told after one another with a comma between."""
    return text.split(", ")


class DeskTest(unittest.TestCase):
    def setUp(self):
        self.desk = Desk()

    def tell(self, name, rows):
        """Tell the desk a circuit by the rows of its text."""
        self.assert_answer("circuit " + name, "")
        for row in rows:
            self.assert_answer(row, "")
        self.assert_answer("over", "ok")

    def tell_circuit(self, name, circuit):
        """Tell the desk this circuit."""
        self.tell(name, written(circuit).split("\n")[:-1])

    def tell_code(self, name, text):
        """Tell the desk the code of these SIGNS."""
        self.assert_answer("code " + name + " " + text, "ok")

    def assert_answer(self, row, answer):
        """The desk answers so, with a text."""
        found = self.desk.say(row)
        self.assertIs(found.__class__, str)
        self.assertEqual(found, answer, row)

    def assert_refused(self, row, refusal):
        """The desk refuses the row with just this class."""
        with self.assertRaises(refusal) as caught:
            self.desk.say(row)
        self.assertIs(caught.exception.__class__, refusal, row)
        return caught.exception

    def assert_show(self, name, told):
        """A name means a circuit of these rows."""
        self.assert_answer("show " + name, "; ".join(told) or "-")


class Told(DeskTest):
    def test_circuits_by_their_texts(self):
        self.tell("a", ["wires 2", "h 0", "cx 0 1"])
        self.assert_answer("show a", "h 0; cx 0 1")
        self.tell("b", ["wires 1"])
        self.assert_answer("show b", "-")
        self.tell("c", ["wires 3", "read 0 bit", "if bit 1 ccx 2 1 0"])
        self.assert_answer("show c", "read 0 bit; if bit 1 ccx 2 1 0")
        self.assert_answer("show a", "h 0; cx 0 1")

    def test_texts_with_circuits_within_remarks_and_blanks(self):
        rows = [
            "# a remark", "", "   ", "  wires   2  # two", "circuit a 2", "h 0", "cx 0 1", "end", "do a 1 0", "undo a 0 1 # back", "t 1",
        ]
        self.tell("a", rows)
        self.assert_show("a", read("".join(row + "\n" for row in rows)).told())
        self.assert_answer("show a", "h 1; cx 1 0; cx 0 1; h 0; t 1")

    def test_rows_within_that_look_like_other_commands(self):
        rows = ["wires 1", "circuit over 1", "x 0", "end", "do over 0", "circuit show 1", "h 0", "end", "undo show 0"]
        self.tell("a", rows)
        self.assert_answer("show a", "x 0; h 0")
        # These are rows of a text that is refused, of which nothing comes: not even what they told.
        for row in ("show a", "circuit b", "circuit", "code a +x", "turn a 1 0", "over x", "over over", "over #", "join a a a", "OVER", "over\t"):
            self.assert_answer("circuit b", "")
            self.assert_answer("wires 1", "")
            self.assert_answer(row, "")
            error = self.assert_refused("over", NoText)
            self.assertEqual(error.row, 2)
            self.assert_answer("show a", "x 0; h 0")
            self.assert_refused("show b", NoRow)

    def test_each_row_answers_with_a_text_without_signs(self):
        self.assert_answer("circuit a", "")
        for row in ("", " ", "nonsense", "wires 9", "#", "\n", "\t", "x" * 5000, "circuit a"):
            self.assert_answer(row, "")
        self.assert_refused("over", NoText)

    def test_over_with_blanks(self):
        for row in ("over", " over", "over ", "   over   "):
            self.assert_answer("circuit a", "")
            self.assert_answer("wires 1", "")
            self.assert_answer(row, "ok")
        self.assert_answer("show a", "-")

    def test_drawn_circuits(self):
        chance = random.Random(701)
        for many in range(1, 6):
            for readings in (0, 2, 5):
                circuit = mixed_circuit(chance, many, 12, readings)
                self.tell_circuit("a", circuit)
                self.assert_show("a", circuit.told())

    def test_a_name_told_again_means_the_new_thing(self):
        self.tell("a", ["wires 1", "x 0"])
        self.tell("a", ["wires 1", "y 0"])
        self.assert_answer("show a", "y 0")
        self.tell_code("a", "+z")
        self.assert_refused("show a", NoRow)
        self.assert_answer("far a", "none")
        self.tell("a", ["wires 1", "z 0"])
        self.assert_answer("show a", "z 0")
        self.assert_refused("far a", NoRow)
        self.assert_answer("turn a 1 0", "ok")
        self.assert_answer("show a", "x 0")
        self.tell_code("a", "+z")
        self.tell_code("a", "+zi")
        self.assert_answer("far a", "1")

    def test_names(self):
        for at, name in enumerate(NAMES):
            self.tell(name, ["wires 1"] + ["x 0"] * at)
        for at, name in enumerate(NAMES):
            self.assert_show(name, ["x 0"] * at)
        for name in NAMES:
            self.tell_code(name, "+z")
            self.assert_answer("far " + name, "none")


class TextRefused(DeskTest):
    def test_over_all_the_same_and_nothing_is_changed(self):
        self.tell("a", ["wires 1", "x 0"])
        for rows, refusal in (
            ([], NoText), (["x 0"], NoText), (["wires 1", "x 1"], NoText), (["wires 1", "circuit a 1"], NoText), (["wires 9"], NoText),
            (["wires 1"] + ["x 0"] * 61, TooMany), (["wires 1"] + ["read 0 " + bit for bit in "abcdef"], TooMany),
            (["wires 1"] + ["#" * 80] * 50, NoText),
        ):
            for name in ("a", "b"):
                self.assert_answer("circuit " + name, "")
                for row in rows:
                    self.assert_answer(row, "")
                self.assert_refused("over", refusal)
                # It is over: these rows are no text's any more.
                self.assert_answer("show a", "x 0")
                self.assert_refused("show b", NoRow)
                self.assert_refused("over", NoRow)
        self.tell("b", ["wires 1", "z 0"])
        self.assert_answer("show b", "z 0")

    def test_the_number_of_the_row(self):
        for rows, number in (
            (["wires 2", "x 0", "x 2"], 3), (["nonsense"], 1), (["wires 1"] + ["x 0"] * 1000, 0), (["", "# x", "x 0"], 3),
            # A line feed stands behind each row: the last row has no words, and an end or a word would stand behind it.
            (["wires 1", "circuit a 1"], 4), ([], 2), ([""], 3), (["# wires 1"], 3),
        ):
            self.assert_answer("circuit a", "")
            for row in rows:
                self.assert_answer(row, "")
            self.assertEqual(self.assert_refused("over", NoText).row, number, rows)

    def test_of_4000_signs_and_one_more(self):
        # With a line feed behind each row.
        for remark, fine in (("#" * 3991, True), ("#" * 3992, False)):
            self.assert_answer("circuit a", "")
            self.assert_answer("wires 1", "")
            self.assert_answer(remark, "")
            if fine:
                self.assert_answer("over", "ok")
            else:
                self.assertEqual(self.assert_refused("over", NoText).row, 0)
        self.assert_answer("show a", "-")

    def test_a_text_goes_on_behind_what_is_no_text(self):
        self.assert_answer("circuit a", "")
        self.assert_answer("wires 1", "")
        for thing in NO_TEXTS:
            self.assert_refused(thing, NoRow)
        self.assert_answer("x 0", "")
        self.assert_refused(None, NoRow)
        self.assert_answer("over", "ok")
        self.assert_answer("show a", "x 0")

    def test_a_text_behind_one_that_was_refused_begins_anew(self):
        self.assert_answer("circuit a", "")
        self.assert_answer("wires 2", "")
        self.assert_answer("nonsense", "")
        self.assert_refused("over", NoText)
        self.tell("a", ["wires 1", "h 0"])
        self.tell("b", ["wires 1", "x 0"])
        self.assert_answer("show a", "h 0")
        self.assert_answer("show b", "x 0")

    def test_the_name_means_the_old_thing_till_it_is_over(self):
        self.tell_code("a", "+z")
        self.assert_answer("circuit a", "")
        self.assert_answer("nonsense", "")
        self.assert_refused("over", NoText)
        self.assert_answer("far a", "none")


class Made(DeskTest):
    def test_join(self):
        self.tell("a", ["wires 2", "h 0", "t 1"])
        self.tell("b", ["wires 2", "cx 0 1", "read 0 p"])
        self.assert_answer("join c a b", "ok")
        self.assert_answer("show c", "h 0; t 1; cx 0 1; read 0 p")
        self.assert_answer("join c b a", "ok")
        self.assert_answer("show c", "cx 0 1; read 0 p; h 0; t 1")
        self.assert_answer("join a a a", "ok")
        self.assert_answer("show a", "h 0; t 1; h 0; t 1")
        self.assert_answer("show b", "cx 0 1; read 0 p")

    def test_join_to_sixty_and_to_sixty_one(self):
        self.tell("a", ["wires 1"] + ["x 0"] * 60)
        self.tell("b", ["wires 1", "h 0"])
        self.tell("none", ["wires 1"])
        self.tell("c", ["wires 1"] + ["t 0"] * 59)
        self.assert_show("a", ["x 0"] * 60)
        self.assert_answer("join d c b", "ok")
        self.assert_show("d", ["t 0"] * 59 + ["h 0"])
        self.assert_answer("join e none a", "ok")
        self.assert_show("e", ["x 0"] * 60)
        for row in ("join d a b", "join d b a", "join a d b", "join f a a"):
            self.assert_refused(row, TooMany)
        self.assert_show("d", ["t 0"] * 59 + ["h 0"])
        self.assert_show("a", ["x 0"] * 60)
        self.assert_refused("show f", NoRow)

    def test_join_refused(self):
        self.tell("a", ["wires 1", "read 0 p"])
        self.tell("b", ["wires 2"])
        self.tell("c", ["wires 1"] + ["read 0 " + bit for bit in "qrstu"])
        for row, refusal in (("join d a b", NoCircuit), ("join d b a", NoCircuit), ("join d a a", NoCircuit), ("join d a c", TooMany)):
            self.assert_refused(row, refusal)
            self.assert_refused("show d", NoRow)

    def test_undo(self):
        self.tell("a", ["wires 2", "h 0", "t 1", "s 0", "cx 1 0"])
        self.assert_answer("undo b a", "ok")
        self.assert_answer("show b", "cx 1 0; r 0; u 1; h 0")
        self.assert_answer("undo a a", "ok")
        self.assert_answer("show a", "cx 1 0; r 0; u 1; h 0")
        self.tell("c", ["wires 1", "read 0 p"])
        self.assert_refused("undo d c", NoCircuit)
        self.assert_refused("undo c c", NoCircuit)
        self.assert_answer("show c", "read 0 p")

    def test_short_and_steps(self):
        chance = random.Random(702)
        for many in range(1, 6):
            circuit = plain_circuit(chance, many, 25, ("h", "x", "z", "t", "s"))
            self.tell_circuit("a", circuit)
            left, steps = shortened(circuit)
            self.assert_answer("steps a", str(len(steps)))
            self.assert_answer("short b a", "ok")
            self.assert_show("b", left.told())
            self.assert_answer("steps b", "0")
            self.assert_show("a", circuit.told())
        self.tell("a", ["wires 1"] + ["x 0"] * 60)
        self.assert_answer("steps a", "30")
        self.assert_answer("short a a", "ok")
        self.assert_answer("show a", "-")
        self.tell("c", ["wires 1", "read 0 p"])
        for row in ("short d c", "short c c", "steps c"):
            self.assert_refused(row, NoCircuit)
        self.assert_answer("show c", "read 0 p")

    def test_turn(self):
        for numbers in ("0 1", "1 0", "3 1 0 2", "0 1 2 3", "7 0 3 2 1 6 5 4"):
            self.assert_answer("turn a " + numbers, "ok")
            rows = self.desk.say("show a").split("; ")
            wires = {2: 1, 4: 2, 8: 3}[len(numbers.split(" "))]
            text = "wires " + str(wires) + "\n" + "".join(row + "\n" for row in rows if row != "-")
            self.assertEqual(turning_of(read(text)), [int(number) for number in numbers.split(" ")])
            self.assertLessEqual(len(rows), 24)
        kept = self.desk.say("show a")
        for numbers in ("0", "0 0", "0 2", "1 2", "0 1 2", "0 1 2 3 4", "0 1 2 3 4 5 6 6", "0 1 2 3 4 5 6 8", "0 1 2 3 4 5 6 99", "10 0"):
            self.assert_refused("turn a " + numbers, NoTurning)
            self.assert_refused("turn b " + numbers, NoTurning)
        self.assert_refused("turn a " + " ".join(str(row) for row in range(16)), NoTurning)
        self.assert_answer("show a", kept)
        self.assert_refused("show b", NoRow)


class Codes(DeskTest):
    def test_far_and_mends_of_known_codes(self):
        for text in KNOWN:
            self.tell_code("c", text)
            code = Code(sign_rows(text))
            self.assert_answer("far c", "none" if code.far() is None else str(code.far()))
            for size in range(min(2, code.many()) + 1):
                found = mends(code, size)
                if found[0] == "mends":
                    self.assert_answer(f"mends c {size}", f"mends {len(found[1])}")
                else:
                    self.assert_answer(f"mends c {size}", f"clash {signs_word(found[1])} {signs_word(found[2])}")

    def test_told_by_hand(self):
        self.tell_code("five", FIVE)
        self.assert_answer("far five", "3")
        self.assert_answer("mends five 0", "mends 1")
        self.assert_answer("mends five 1", "mends 16")
        self.tell_code("thrice", THRICE)
        self.assert_answer("far thrice", "1")
        self.assert_answer("mends thrice 1", "clash +iii +iiz")
        self.tell_code("four", FOUR)
        self.assert_answer("far four", "2")
        self.assert_answer("mends four 1", "clash +iiiz +iizi")
        self.tell_code("all", "-xzzxi -ixzzx +xixzz +zxixz +zzzzz")
        self.assert_answer("far all", "none")
        self.assert_answer("mends all 5", "mends 32")
        self.tell_code("one", "-y")
        self.assert_answer("mends one 1", "mends 2")

    def test_each_letter(self):
        for text in ("+x", "+y", "+z", "+xy +yx", "+yz +zy", "+xz +zx", "-ix -yi", "+xx -yy", "+yy +zz", "-zi -iy"):
            self.tell_code("c", text)
            self.assert_answer("far c", "none")
        for text, far in (("+iy", "1"), ("+xyz", "1"), ("+yyyy +xxxx", "2"), ("+yyyy -zzzz", "2"), ("-yyyyi +zzzzi +iiiiy", "2")):
            self.tell_code("c", text)
            self.assert_answer("far c", far)
        for text in ("+x +y", "+xx +iy", "+yx +zi", "+zz +zy", "+xy +xx"):
            self.assert_refused("code c " + text, NoCode)

    def test_of_six_wires(self):
        self.tell_code("c", "+zzzzz")
        with self.assertRaises(WireError):
            self.desk.say("code c +zzzzzz")
        self.assert_answer("mends c 0", "mends 1")

    def test_refused(self):
        self.tell_code("c", "+zz")
        for signs in ("+ii", "-i", "+zz +zz", "+zz -zz", "+zi +xi", "+z +zz", "+zz +z", "+z +z", "+xx +zz +yy", "+z +x"):
            self.assert_refused("code c " + signs, NoCode)
            self.assert_refused("code d " + signs, NoCode)
        for size in ("3", "4", "9", "10", "99"):
            self.assert_refused("mends c " + size, NoCode)
        self.assert_answer("mends c 2", "clash +ii +iz")
        self.assert_refused("far d", NoRow)


class Asked(DeskTest):
    def test_run_and_chance_of_drawn_circuits(self):
        chance = random.Random(703)
        for many in range(1, 6):
            for readings in (0, 1, 3, 5):
                circuit = mixed_circuit(chance, many, 15, readings)
                self.tell_circuit("a", circuit)
                for row in {0, 2 ** many - 1, chance.randrange(2 ** many)}:
                    branches = run(circuit, begun(many, row))
                    texts = [bits_word(bits) + " " + length_text(state.length()) for bits, state in branches]
                    self.assert_answer(f"run a {row}", "; ".join(texts))
                    self.assert_chances(circuit, row, dict((bits_word(bits), state) for bits, state in branches))

    def assert_chances(self, circuit, row, branches):
        """The chance of each branch is told, and 0 of one that isn't there."""
        many = len(circuit.bits())
        for number in range(2 ** many):
            word = format(number, "b").zfill(many) if many else "-"
            told = length_text(branches[word].length()) if word in branches else "0"
            self.assert_answer(f"chance a {row} {word}", told)

    def test_told_by_hand(self):
        self.tell("a", text_rows("wires 2, h 0, cx 0 1, read 0 p, read 1 q"))
        self.assert_answer("run a 0", "00 1/2; 11 1/2")
        self.assert_answer("run a 1", "01 1/2; 10 1/2")
        for word, told in (("00", "1/2"), ("01", "0"), ("10", "0"), ("11", "1/2"), ("-", "0"), ("0", "0"), ("1", "0"), ("001", "0")):
            self.assert_answer("chance a 0 " + word, told)
        self.tell("b", text_rows("wires 1, h 0, t 0, h 0, read 0 p"))
        self.assert_answer("run b 0", "0 2+1r/4; 1 2-1r/4")
        self.assert_answer("chance b 0 1", "2-1r/4")
        self.assert_answer("chance b 1 1", "2+1r/4")
        self.tell("c", text_rows("wires 1, h 0"))
        self.assert_answer("run c 1", "- 1")
        self.assert_answer("chance c 1 -", "1")
        self.assert_answer("chance c 1 0", "0")
        self.assert_answer("chance c 1 " + "01" * 30, "0")

    def test_rows_of_two_figures(self):
        self.tell("a", text_rows("wires 5, read 0 p, read 1 q, read 2 r, read 3 s, read 4 t"))
        for row in range(32):
            word = format(row, "05b")
            self.assert_answer(f"run a {row}", word + " 1")
            self.assert_answer(f"chance a {row} {word}", "1")
            self.assert_answer(f"chance a {row} {format(row ^ 1, '05b')}", "0")
        for row in ("32", "33", "99"):
            self.assert_refused("run a " + row, NoState)
            self.assert_refused("chance a " + row + " 00000", NoState)
            self.assert_refused("chance a " + row + " -", NoState)
        self.tell("b", ["wires 1"])
        self.assert_refused("run b 2", NoState)
        self.assert_refused("chance b 10 -", NoState)

    def test_table_of_drawn_circuits(self):
        chance = random.Random(704)
        for many in range(1, 6):
            for readings in (0, 1, 3, 5):
                circuit = mixed_circuit(chance, many, 20, readings, QUARTER_WORDS)
                self.tell_circuit("a", circuit)
                texts = []
                for bits, k, table in table_run(circuit):
                    texts.append(" ".join([f"{bits_word(bits)}/{k}"] + [signs_word(row) for row in table.rows()]))
                self.assert_answer("table a", "; ".join(texts))

    def test_table_told_by_hand(self):
        self.tell("a", ["wires 1"])
        self.assert_answer("table a", "-/0 +z")
        self.tell("a", text_rows("wires 2, h 0, cx 0 1"))
        self.assert_answer("table a", "-/0 +xx +zz")
        self.tell("a", text_rows("wires 2, h 0, cx 0 1, read 0 p, read 1 q"))
        self.assert_answer("table a", "00/1 +zi +iz; 11/1 -zi -iz")
        self.tell("a", text_rows("wires 3, h 0, s 0, read 2 p, h 1, read 1 q, if q 1 y 0"))
        self.assert_answer("table a", "00/1 +yii +izi +iiz; 01/1 +yii -izi +iiz")
        for gate in ("t 0", "u 1", "ccx 0 1 2"):
            self.tell("b", text_rows("wires 3, " + gate))
            self.assert_refused("table b", NoGate)
            self.tell("b", text_rows("wires 3, read 0 p, if p 1 " + gate))
            self.assert_refused("table b", NoGate)

    def test_alike(self):
        for one, other, told in (
            ("x 0, x 0", "", "alike 0"), ("x 0, y 0", "z 0", "alike 2"), ("t 0, x 0, t 0, x 0", "", "alike 7"),
            ("", "t 0, x 0, t 0, x 0", "alike 1"), ("", "x 0", "parted 0"), ("", "z 0", "parted 0 2"), ("", "z 1", "parted 0 1"),
            ("", "cx 0 1", "parted 2"), ("cx 1 0", "", "parted 1"), ("", "cz 0 1", "parted 0 3"),
        ):
            self.tell("a", text_rows("wires 2, " + one) if one else ["wires 2"])
            self.tell("b", text_rows("wires 2, " + other) if other else ["wires 2"])
            self.assert_answer("alike a b", told)
            self.assert_answer("alike a a", "alike 0")

    def test_alike_of_drawn_circuits(self):
        chance = random.Random(705)
        for many in range(1, 6):
            for _ in range(4):
                one = plain_circuit(chance, many, 4, ("x", "z", "t", "h"))
                other = plain_circuit(chance, many, 2, ("x", "z", "t", "h"))
                self.tell_circuit("a", one)
                self.tell_circuit("b", one.then(other))
                found = held(one, one.then(other))
                told = f"alike {found[1]}" if found[0] == "alike" else " ".join(["parted"] + [str(row) for row in found[1]])
                self.assert_answer("alike a b", told)

    def test_parted_by_rows_of_two_figures(self):
        self.tell("a", ["wires 5"])
        self.tell("b", text_rows("wires 5, z 0"))
        self.assert_answer("alike a b", "parted 0 16")
        self.tell("b", text_rows("wires 5, ccx 0 1 4"))
        self.assert_answer("alike b a", "parted 24")

    def test_alike_refused(self):
        self.tell("a", ["wires 1"])
        self.tell("b", ["wires 2"])
        self.tell("c", text_rows("wires 1, read 0 p"))
        for row in ("alike a b", "alike b a", "alike a c", "alike c a", "alike c c"):
            self.assert_refused(row, NoCircuit)


class Forms(DeskTest):
    def setUp(self):
        super().setUp()
        self.tell("a", text_rows("wires 2, h 0, cx 0 1"))
        self.tell("b", text_rows("wires 2, x 1"))
        self.tell_code("c", "+zz")

    # Rows of each form; behind each its answer where nothing is changed by it.
    FINE = (
        ("join d a b", "ok"), ("undo d a", "ok"), ("short d a", "ok"), ("turn d 1 0", "ok"), ("code d +zz -xx", "ok"), ("far c", "1"),
        ("mends c 0", "mends 1"), ("show a", "h 0; cx 0 1"), ("run a 0", "- 1"), ("chance a 0 -", "1"), ("table a", "-/0 +xx +zz"),
        ("alike a b", "parted 0"), ("steps a", "0"),
    )

    def assert_kept(self):
        """The three things are what they were, and there are no others."""
        self.assert_answer("show a", "h 0; cx 0 1")
        self.assert_answer("show b", "x 1")
        self.assert_answer("far c", "1")
        self.assert_refused("show d", NoRow)
        self.assert_refused("far d", NoRow)
        self.assert_refused("over", NoRow)

    def test_blanks_between_and_at_both_ends(self):
        for row, answer in self.FINE:
            for blanks, ends in (("  ", ""), (" ", " "), ("     ", "   "), (" ", "          ")):
                self.assert_answer(ends + row.replace(" ", blanks) + ends, answer)
                self.assert_answer(ends + row.replace(" ", blanks), answer)
        self.assert_answer("   circuit   d   ", "")
        self.assert_answer("wires 1", "")
        self.assert_answer("   over ", "ok")

    def test_rows_without_words(self):
        for row in ("", " ", "     "):
            self.assert_refused(row, NoRow)
        self.assert_kept()

    def test_what_is_no_text(self):
        for thing in NO_TEXTS:
            self.assert_refused(thing, NoRow)
        self.assert_kept()

    def test_unknown_words(self):
        for row in (
            "a", "show", "shows a", "Show a", "SHOW a", "wires 2", "x 0", "read 0 p", "end", "do a 0 1", "if p 1 x 0", "name a", "0", "#",
            "# show a", "-", "say show a", "play", "circuits a", "far\tc", "show\ta", "\tshow a", "show\n", "\n", "\t", "show a;", "over over",
            "over a", "mend c 0", "parted", "steps", "run", "refused", "ok", "plain a", "table",
        ):
            self.assert_refused(row, NoRow)
        self.assert_kept()

    def test_too_few_and_too_many_words(self):
        for row, _ in self.FINE + (("circuit d", ""),):
            words = row.split(" ")
            for count in range(1, len(words)):
                if words[0] not in ("turn", "code") or count < 3:
                    self.assert_refused(" ".join(words[:count]), NoRow)
            if words[0] not in ("turn", "code"):
                for more in (words[-1], "a", "0", "#", "-", "+zz"):
                    self.assert_refused(row + " " + more, NoRow)
        self.assert_kept()

    def test_words_that_are_no_names_where_one_is_told(self):
        for word in NO_NAME_WORDS:
            for row in ("circuit {}", "join {} a b", "undo {} a", "short {} a", "turn {} 1 0", "code {} +zz"):
                self.assert_refused(row.format(word), NoRow)
        self.assert_kept()

    def test_names_that_are_not_there(self):
        for word in ("d", "aa", "over", "abcdefgh", "h", "ok") + NO_NAME_WORDS:
            for row in (
                "join d {} a", "join d a {}", "undo d {}", "short d {}", "far {}", "mends {} 0", "show {}", "run {} 0", "chance {} 0 -",
                "table {}", "alike {} a", "alike a {}", "steps {}",
            ):
                self.assert_refused(row.format(word), NoRow)
        self.assert_kept()

    def test_names_of_the_other_sort(self):
        for row in (
            "join d c a", "join d a c", "undo d c", "short d c", "far a", "mends a 0", "show c", "run c 0", "chance c 0 -", "table c",
            "alike c a", "alike a c", "alike c c", "steps c", "far b", "mends b 1",
        ):
            self.assert_refused(row, NoRow)
        self.assert_kept()

    def test_words_that_are_no_numbers(self):
        for word in NO_NUMBER_WORDS:
            for row in ("turn d {}", "turn d {} 0", "turn d 1 {}", "turn d 1 0 {} 2", "mends c {}", "run a {}", "chance a {} -"):
                self.assert_refused(row.format(word), NoRow)
        self.assert_kept()

    def test_words_that_are_no_signs(self):
        for word in NO_SIGNS_WORDS:
            for row in ("code d {}", "code d {} +xx", "code d +xx {}", "code d +xx +zz {}", "code c {}"):
                self.assert_refused(row.format(word), NoRow)
        self.assert_kept()

    def test_words_that_are_no_bits(self):
        for word in NO_BITS_WORDS:
            self.assert_refused("chance a 0 " + word, NoRow)
        self.assert_kept()

    def test_over_without_a_circuit_begun(self):
        for row in ("over", "  over", "over  "):
            self.assert_refused(row, NoRow)
        self.assert_kept()

    def test_no_row_goes_ahead_of_what_the_stages_refuse(self):
        self.tell("d", text_rows("wires 1, read 0 p"))
        for row in (
            "join A d a", "join e d x", "undo A d", "short A d", "turn A 0 0", "turn e 0 0 00", "code A +ii", "code e +ii ii", "mends c 09",
            "mends x 9", "run a 99 x", "run x 99", "chance a 99 2", "chance x 99 0", "alike d x", "alike d a b", "table x",
        ):
            self.assert_refused(row, NoRow)

    def test_what_is_refused_by_the_stages_changes_nothing(self):
        self.tell("e", text_rows("wires 1, t 0, read 0 p"))
        for row, refusal in (
            ("join d a e", NoCircuit), ("undo d e", NoCircuit), ("short d e", NoCircuit), ("turn d 0 0", NoTurning), ("code d +ii", NoCode),
            ("mends c 3", NoCode), ("run a 4", NoState), ("chance a 4 -", NoState), ("table e", NoGate), ("alike a e", NoCircuit),
            ("steps e", NoCircuit), ("join a a e", NoCircuit), ("undo e e", NoCircuit), ("turn a 0 0", NoTurning), ("code c +ii", NoCode),
        ):
            self.assert_refused(row, refusal)
            self.assert_kept()
            self.assert_answer("show e", "t 0; read 0 p")


class Plays(DeskTest):
    ROWS = [
        "circuit a", "wires 2", "h 0", "cx 0 1", "over", "show a", "show b", "undo b a", "show b", 5, "over", "circuit c", "wires 1", None,
        "x 0", "over", "show c", "circuit c", "wires 7", "over", "show c", "code d +zz", "far d", "far a", "mends d 1", "nonsense", "",
        "join e a b", "steps e", "alike a b", "run a 3", "chance a 1 -", "table a", "turn f 1 0", "show f", "turn f 1 1", "show f",
    ]
    ANSWERS = [
        "", "", "", "", "ok", "h 0; cx 0 1", "refused", "ok", "cx 0 1; h 0", "refused", "refused", "", "", "refused",
        "", "ok", "x 0", "", "", "refused", "x 0", "ok", "1", "refused", "clash +ii +iz", "refused", "refused",
        "ok", "2", "parted 0", "- 1", "1", "-/0 +xx +zz", "ok", "x 0", "refused", "x 0",
    ]

    def test_told_by_hand(self):
        handed = list(self.ROWS)
        found = Desk().play(handed)
        self.assertIs(found.__class__, list)
        self.assertEqual(found, self.ANSWERS)
        self.assertEqual(handed, self.ROWS)

    def test_of_no_rows(self):
        self.assertEqual(Desk().play([]), [])

    def test_a_new_desk_each_time(self):
        self.tell("b", ["wires 1", "x 0"])
        self.assertEqual(self.desk.play(self.ROWS), self.ANSWERS)
        self.assertEqual(self.desk.play(["show b", "show a", "over"]), ["refused"] * 3)
        # What was played is not on this desk.
        self.assert_answer("show b", "x 0")
        self.assert_refused("show a", NoRow)

    def test_while_a_circuit_is_begun(self):
        self.assert_answer("circuit a", "")
        self.assert_answer("wires 1", "")
        self.assertEqual(self.desk.play(["circuit b", "wires 1", "over", "show b", "over"]), ["", "", "ok", "-", "refused"])
        self.assertEqual(self.desk.play(["over"]), ["refused"])
        self.assert_answer("x 0", "")
        self.assert_answer("over", "ok")
        self.assert_answer("show a", "x 0")

    def test_a_circuit_begun_and_never_over(self):
        self.assertEqual(Desk().play(["circuit a", "wires 1", "show a", "far a", "circuit b"]), ["", "", "", "", ""])
        self.assertEqual(Desk().play(["circuit a"]), [""])

    def test_the_same_rows_alike_each_time(self):
        first = Desk().play(self.ROWS)
        desk = Desk()
        for _ in range(3):
            self.assertEqual(desk.play(self.ROWS), first)
            self.assertEqual(Desk().play(self.ROWS), first)

    def test_as_say_answers_them(self):
        answers = []
        for row in self.ROWS:
            try:
                answers.append(self.desk.say(row))
            except ValueError:
                answers.append("refused")
        self.assertEqual(answers, self.ANSWERS)

    def test_each_refusal_of_the_stages(self):
        rows = [
            "circuit a", "wires 1", "t 0", "read 0 p", "over", "undo b a", "join b a a", "table a", "run a 2", "turn b 0 0", "code b +i",
            "circuit b", "over", "circuit b", "wires 1"] + ["x 0"] * 61 + ["over", "show b", "show a",
        ]
        answers = ["", "", "", "", "ok"] + ["refused"] * 6 + ["", "refused", "", ""] + [""] * 61 + ["refused", "refused", "t 0; read 0 p"]
        self.assertEqual(Desk().play(rows), answers)

    def test_what_is_told_is_free(self):
        rows = list(self.ROWS)
        found = self.desk.play(rows)
        rows.clear()
        found.clear()
        self.assertEqual(self.desk.play(self.ROWS), self.ANSWERS)


class Desks(DeskTest):
    def test_each_has_its_own_things(self):
        other = Desk()
        self.tell("a", ["wires 1", "x 0"])
        with self.assertRaises(NoRow):
            other.say("show a")
        self.assertEqual(other.say("circuit b"), "")
        self.assert_answer("show a", "x 0")
        self.assert_refused("over", NoRow)
        self.assertEqual(other.say("show a"), "")

    def test_a_long_session(self):
        self.tell("ask", text_rows("wires 3, h 1, cx 1 2, cx 0 1, h 0, read 0 p, read 1 q, if q 1 x 2, if p 1 z 2"))
        self.assert_answer("run ask 4", "00 1/4; 01 1/4; 10 1/4; 11 1/4")
        self.assert_answer("table ask", "00/2 +zii +izi +iiz; 01/2 +zii -izi +iiz; 10/2 -zii +izi +iiz; 11/2 -zii -izi +iiz")
        self.tell("flip", text_rows("wires 3, x 0"))
        self.assert_answer("join both flip ask", "ok")
        self.assert_answer("table both", "00/2 +zii +izi -iiz; 01/2 +zii -izi -iiz; 10/2 -zii +izi -iiz; 11/2 -zii -izi -iiz")
        self.assert_answer("turn step 1 2 3 4 5 6 7 0", "ok")
        self.assert_answer("undo back step", "ok")
        self.assert_answer("join nothing step back", "ok")
        self.assert_answer("short nothing nothing", "ok")
        self.assert_answer("show nothing", "-")
        self.assert_answer("join twice step step", "ok")
        self.assert_answer("turn two 2 3 4 5 6 7 0 1", "ok")
        self.assert_answer("alike twice two", "alike 0")


if __name__ == "__main__":
    unittest.main()
