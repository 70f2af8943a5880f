"""Promises 15, 16 and 17: sign tables, what gates and readings make of them, and their states."""

import itertools
import random
import unittest

from bothwire.circuits import Asking, Circuit, Reading
from bothwire.errors import NoGate, NoState, NoTable, NoWire
from bothwire.gates import Ccx, Cx, Cz, H, R, S, Swap, T, U, X, Y, Z, gate_of
from bothwire.numbers import over_root, turned
from bothwire.signs import goes_with, product
from bothwire.signtables import SignTable, plain_table
from bothwire.states import State, begun
from tests.oracle import NOUGHT, ONE
from tests.signoracle import done_worths, each_sign_row, holding_rows, told_rows
from tests.stateoracle import (
    NO_WORTH, QUARTER_WORDS, WIRES_OF,
    each_gate, gate_worths, mixed_state, nought_state, read_worths, row_state, small_state, state_worths,
    turned_worth,
)
from tests.test_signs import NO_SIGN_ROWS
from tests.things import NO_NUMBERS, NO_STATES, Odd

NO_QUARTER_GATES = (
    None, 0, True, "x 0", "h", ("h", 0), ["h 0"], Odd(), H, Reading(0, "a"), Asking("a", 1, X(0)), Circuit(1, [X(0)]),
    begun(1, 0), [X(0)], T(0), U(0), T(4), U(4), Ccx(0, 1, 2), Ccx(4, 3, 2),
)

X_ROW, Y_ROW, Z_ROW = (0, (1,), (0,)), (0, (1,), (1,)), (0, (0,), (1,))


def sign_row(signs):
    """The sign row of a text as -xiyz."""
    xs = tuple(int(sign in "xy") for sign in signs[1:])
    zs = tuple(int(sign in "zy") for sign in signs[1:])
    return ("+-".index(signs[0]), xs, zs)


def sign_rows(text):
    """The sign rows of a text, a blank between."""
    return [sign_row(signs) for signs in text.split(" ")]


def product_row(one, other):
    """The sign row that two come to that go together."""
    m, (_, xs, zs) = product(one, other)
    return (m // 2, xs, zs)


def mixed_products(chance, rows):
    """Other rows with the same products: rows times others, in another order."""
    rows = list(rows)
    for _ in range(12):
        if len(rows) > 1:
            at, other = chance.sample(range(len(rows)), 2)
            rows[at] = product_row(rows[at], rows[other])
    chance.shuffle(rows)
    return rows


class TableTest(unittest.TestCase):
    def assert_told_rows(self, rows, worths):
        """The rows hold the state, and are those that are told: there is one such list."""
        self.assertIs(rows.__class__, list)
        places = []
        for row in rows:
            bits = row[1] + row[2]
            self.assertEqual(done_worths(row, worths), worths, rows)
            places.append(bits.index(1))
        self.assertEqual(places, sorted(set(places)), rows)
        for at, row in enumerate(rows):
            for other, place in enumerate(places):
                self.assertEqual((row[1] + row[2])[place], int(at == other), rows)

    def assert_table(self, table, worths):
        """The table is that of a state, told by its worths."""
        many = table.many()
        self.assertIsInstance(table, SignTable)
        self.assertEqual(2 ** many, len(worths))
        self.assertEqual(len(table.rows()), many)
        self.assert_told_rows(table.rows(), worths)
        self.assert_state(table.state(), worths)
        for wire in range(many):
            left = [any(own != NO_WORTH for own in read_worths(wire, bit, worths)) for bit in "01"]
            expected = None if all(left) else left.index(True)
            self.assertEqual(table.told(wire), expected)
            self.assertIn(table.told(wire).__class__, (int, type(None)))

    def assert_state(self, state, worths):
        """A state of length 1, its first eighth 1 by roots, that is the one of these worths but for a factor."""
        self.assertIsInstance(state, State)
        self.assertEqual(state.length(), (1, 0, 0))
        eighths = state.eighths()
        first = [one for one in eighths if one != NOUGHT][0]
        self.assertEqual(first[:4], (1, 0, 0, 0))
        at = eighths.index(first)
        self.assertEqual([one == NOUGHT for one in eighths], [own == NO_WORTH for own in worths])
        # All others stand to the first one as in the worths: each is a turn of it.
        for one, own in zip(eighths, worths):
            if own != NO_WORTH:
                turns = [turn for turn in range(8) if turned(first, turn) == one]
                self.assertEqual(len(turns), 1)
                self.assertEqual(own, turned_worth(worths[at], turns[0]))


class Made(TableTest):
    def test_told_by_hand(self):
        for rows, told in (
            ("+x", "+x"), ("-y", "-y"), ("-z", "-z"),
            ("+zi +iz", "+zi +iz"), ("+iz +zi", "+zi +iz"), ("+zz +iz", "+zi +iz"), ("-zz +iz", "-zi +iz"),
            ("+xx +zz", "+xx +zz"), ("+zz +xx", "+xx +zz"), ("-yy +zz", "+xx +zz"), ("-yy +xx", "+xx +zz"), ("+yy +xx", "+xx -zz"),
            ("+xi +iz", "+xi +iz"), ("+iz -xz", "-xi +iz"), ("+yz +zy", "+yz +zy"), ("+xy +yx", "+xy +zz"), ("-xy +yx", "-xy -zz"),
            ("+xz +zx", "+xz +zx"), ("+yy +xz", "+xz +zx"), ("+ix +xi", "+xi +ix"),
            ("+xxx +zzi +izz", "+xxx +ziz +izz"), ("-izz +zzi -xxx", "-xxx -ziz -izz"),
            ("+zii +izi +iiz", "+zii +izi +iiz"), ("+zzz +izz +iiz", "+zii +izi +iiz"),
            ("-zzzzz +izzzz -iizzz +iiizz -iiiiz", "-ziiii -iziii -iizii -iiizi -iiiiz"),
        ):
            table = SignTable(sign_rows(rows))
            self.assertEqual(table.rows(), sign_rows(told), rows)
            self.assertEqual(table.many(), len(rows.split(" ")))

    def test_rows_in_other_orders(self):
        for rows in ("+xxx +zzi +izz", "+xzi +zxz -izx", "-yyi +zzi +iiy", "+zxi +xzi -iix"):
            told = SignTable(sign_rows(rows)).rows()
            for order in itertools.permutations(sign_rows(rows)):
                self.assertEqual(SignTable(list(order)).rows(), told)

    def test_products_of_rows(self):
        chance = random.Random(700)
        for many in range(1, 6):
            for _ in range(12):
                table = some_table(chance, many)[0]
                for _ in range(3):
                    again = SignTable(mixed_products(chance, table.rows()))
                    self.assertEqual(again.rows(), table.rows())
                self.assertEqual(SignTable(table.rows()).rows(), table.rows())

    def test_rows_told_by_all_that_hold_the_state(self):
        chance = random.Random(701)
        for many, count in ((1, 6), (2, 12), (3, 6)):
            for _ in range(count):
                table, worths = some_table(chance, many)
                self.assertEqual(table.rows(), told_rows(holding_rows(worths, many)))

    def test_each_pair_of_two_wires(self):
        # 60 states of two wires are held by a table: each pair of rows makes one of these, or none.
        rows = each_sign_row(2)
        found = set()
        for one in rows:
            for other in rows:
                bits = (one[1:], other[1:])
                fine = goes_with(one, other) and one[1:] != other[1:] and ((0, 0), (0, 0)) not in bits
                if fine:
                    found.add(tuple(SignTable([one, other]).rows()))
                else:
                    with self.assertRaises(NoTable):
                        SignTable([one, other])
        self.assertEqual(len(found), 60)


class Refused(unittest.TestCase):
    def assert_refused(self, rows):
        with self.assertRaises(NoTable):
            SignTable(rows)

    def test_what_is_no_list(self):
        for thing in (
            (), (Z_ROW,), Z_ROW, None, 0, 1, True, "+z", {}, {0: Z_ROW}, {Z_ROW}, iter([Z_ROW]), plain_table(1), Odd(),
            tuple(sign_rows("+zi +iz")),
        ):
            with self.subTest(thing=thing):
                self.assert_refused(thing)

    def test_what_are_no_sign_rows(self):
        for thing in NO_SIGN_ROWS:
            with self.subTest(thing=thing):
                self.assert_refused([thing])
                self.assert_refused([thing, sign_row("+iz")])
                self.assert_refused([sign_row("+zi"), thing])

    def test_too_few_and_too_many_rows(self):
        self.assert_refused([])
        for many in range(1, 6):
            rows = plain_table(many).rows()
            for count in range(1, many):
                self.assert_refused(rows[:count])
            self.assert_refused(rows + [(0, (1,) + (0,) * (many - 1), (0,) * many)])
            self.assert_refused(rows + [rows[0]])
        self.assert_refused(sign_rows("+zi +iz +zz"))

    def test_rows_of_unlike_many_wires(self):
        self.assert_refused(sign_rows("+zi +z"))
        self.assert_refused(sign_rows("+z +iz"))
        self.assert_refused(sign_rows("+zii +izi +iz"))
        self.assert_refused(sign_rows("+z +z"))
        self.assert_refused(sign_rows("+zi +iz +iiz"))

    def test_rows_that_do_not_go_together(self):
        for rows in ("+zi +xi", "+xx +iz", "+xx +zi", "+zi +yi", "+xy +xx", "+zii +izi +xxx", "+zii +ixi +iyi", "+xii +ziz +izi"):
            self.assert_refused(sign_rows(rows))

    def test_rows_that_do_nothing(self):
        for rows in ("+i", "-i", "+zi +ii", "-ii +zi", "+zii +izi -iii", "+iii +izi +iiz"):
            self.assert_refused(sign_rows(rows))

    def test_rows_one_of_which_is_a_product_of_others(self):
        for rows in (
            "+zi +zi", "+zi -zi", "+xx -xx", "+zii +izi +zzi", "+zii +izi -zzi", "+xxi +zzi -yyi", "+xxi +zzi +yyi",
            "+ziii +izii +iizi +zzzi", "+ziii +izii +iizi -zzzi", "+ziii +izii +zizi +izzi",
            "+ziiii +iziii +iizii +iiizi +zzzzi", "+xxiii +zziii +iixxi +iizzi -yyyyi",
        ):
            self.assert_refused(sign_rows(rows))

    def test_a_refusal_changes_nothing(self):
        rows = sign_rows("+zi +xi")
        self.assert_refused(rows)
        self.assertEqual(rows, sign_rows("+zi +xi"))


class AskersOwn(unittest.TestCase):
    def test_what_was_handed_in_is_free(self):
        rows = sign_rows("-yy +zz")
        table = SignTable(rows)
        self.assertEqual(rows, sign_rows("-yy +zz"))
        rows[0] = rows[1]
        rows.append(None)
        self.assertEqual(table.rows(), sign_rows("+xx +zz"))
        self.assertEqual(table.many(), 2)

    def test_what_is_told_is_the_askers_own(self):
        table = plain_table(2)
        table.rows().clear()
        table.rows()[0] = None
        self.assertEqual(table.rows(), sign_rows("+zi +iz"))
        self.assertEqual(table.state().eighths(), begun(2, 0).eighths())
        plain_table(2).rows().pop()
        self.assertEqual(len(plain_table(2).rows()), 2)

    def test_gates_and_readings_leave_the_table(self):
        table = plain_table(2)
        behind = table.on(H(0)).on(Cx(0, 1))
        self.assertEqual(table.rows(), sign_rows("+zi +iz"))
        one = behind.read(0, 1)
        self.assertEqual(behind.rows(), sign_rows("+xx +zz"))
        self.assertEqual(one.rows(), sign_rows("-zi -iz"))
        one.rows().clear()
        self.assertEqual(one.read(0, 1).rows(), sign_rows("-zi -iz"))
        self.assertEqual(one.rows(), sign_rows("-zi -iz"))

    def test_a_refusal_leaves_the_table(self):
        table = plain_table(1)
        for refused in (lambda: table.on(T(0)), lambda: table.on(X(1)), lambda: table.read(0, 1), lambda: table.read(1, 0)):
            with self.assertRaises((NoGate, NoWire, NoTable)):
                refused()
        self.assertEqual(table.rows(), [Z_ROW])


def some_table(chance, many):
    """A table behind some gates, many of them h, and the worths of its state."""
    table = plain_table(many)
    worths = state_worths(begun(many, 0))
    words = [word for word in QUARTER_WORDS if WIRES_OF[word] <= many] + ["h", "h", "s"]
    if many > 1:
        words += ["cx", "cx", "cz"]
    for _ in range(6 * many + 2):
        word = chance.choice(words)
        wires = tuple(chance.sample(range(many), WIRES_OF[word]))
        table = table.on(gate_of(word, wires))
        worths = gate_worths(word, wires, worths)
    return table, worths


class Plain(TableTest):
    def test_is_that_of_row_0(self):
        for many in range(1, 6):
            table = plain_table(many)
            self.assert_table(table, state_worths(begun(many, 0)))
            self.assertEqual(table.state().eighths(), begun(many, 0).eighths())
            self.assertEqual(table.rows(), sign_rows(" ".join("+" + "i" * at + "z" + "i" * (many - at - 1) for at in range(many))))

    def test_refuses_what_is_no_number_from_1_to_5(self):
        for many in NO_NUMBERS + (0, 6, -1, 10 ** 30):
            with self.subTest(many=many), self.assertRaises(NoTable):
                plain_table(many)


class Gates(TableTest):
    def test_told_by_hand(self):
        for gate, told in (
            (X(0), "+x -y -z"), (Y(0), "-x +y -z"), (Z(0), "-x -y +z"), (H(0), "+z -y +x"), (S(0), "+y -x +z"), (R(0), "-y +x +z"),
        ):
            for row, behind in zip((X_ROW, Y_ROW, Z_ROW), told.split(" ")):
                self.assertEqual(SignTable([row]).on(gate).rows(), [sign_row(behind)], gate.text())
                minus = "-" if behind[0] == "+" else "+"
                self.assertEqual(SignTable([(1,) + row[1:]]).on(gate).rows(), [sign_row(minus + behind[1:])])
        for rows, gate, told in (
            ("+xi +iz", Cx(0, 1), "+xx +zz"), ("+xi +ix", Cz(0, 1), "+xz +zx"), ("+xi -iz", Swap(0, 1), "+ix -zi"),
            ("+yi +iy", Cx(0, 1), "+yx +zy"), ("+yi +iy", Cz(1, 0), "+yz +zy"), ("+yy -xz", Cx(0, 1), "-xz +yy"),
        ):
            self.assertEqual(SignTable(sign_rows(rows)).on(gate).rows(), SignTable(sign_rows(told)).rows(), (rows, gate.text()))

    def test_each_gate_on_each_table_of_one_and_two_wires(self):
        for many, count in ((1, 6), (2, 60)):
            seen = {tuple(plain_table(many).rows()): state_worths(begun(many, 0))}
            left = list(seen)
            while left:
                rows = left.pop()
                table, worths = SignTable(list(rows)), seen[rows]
                self.assert_table(table, worths)
                for word, wires in each_gate(many, QUARTER_WORDS):
                    behind = table.on(gate_of(word, wires))
                    own = gate_worths(word, wires, worths)
                    self.assert_told_rows(behind.rows(), own)
                    if tuple(behind.rows()) not in seen:
                        seen[tuple(behind.rows())] = own
                        left.append(tuple(behind.rows()))
            self.assertEqual(len(seen), count)

    def test_each_gate_on_tables_of_more_wires(self):
        chance = random.Random(710)
        for many, count in ((3, 24), (4, 8), (5, 4)):
            for _ in range(count):
                table, worths = some_table(chance, many)
                for word, wires in each_gate(many, QUARTER_WORDS):
                    behind = table.on(gate_of(word, wires))
                    self.assertEqual(behind.many(), many)
                    self.assert_told_rows(behind.rows(), gate_worths(word, wires, worths))

    def test_each_gate_on_whatever_a_told_row_has_at_its_wires(self):
        # A row with y at both wires of a gate is told of few tables: one is made by hand.
        chance = random.Random(712)
        seen = {word: set() for word in ("cx", "cz", "swap")}
        by_hand = SignTable(sign_rows("+xzx -iyy -zzz"))
        self.assertEqual(by_hand.rows(), sign_rows("+xzx -iyy -zzz"))
        tables = [(by_hand, state_worths(by_hand.state()))] + [some_table(chance, 3) for _ in range(60)]
        for table, worths in tables:
            for word, wires in each_gate(3, tuple(seen)):
                new = {tuple((row[1][wire], row[2][wire]) for wire in wires) for row in table.rows()} - seen[word]
                if new:
                    seen[word] |= new
                    self.assert_table(table, worths)
                    self.assert_told_rows(table.on(gate_of(word, wires)).rows(), gate_worths(word, wires, worths))
        self.assertEqual([len(bits) for bits in seen.values()], [16, 16, 16])

    def test_against_the_state_of_the_table(self):
        chance = random.Random(711)
        for many in range(1, 6):
            table, _ = some_table(chance, many)
            for word, wires in each_gate(many, QUARTER_WORDS):
                gate = gate_of(word, wires)
                state = gate.on(table.state())
                self.assertIs(table.on(gate).holds(state), True, gate.text())
                self.assertIsNotNone(table.on(gate).state().turn_to(state), gate.text())

    def test_refuses_what_is_no_quarter_gate(self):
        for many in range(1, 6):
            for thing in NO_QUARTER_GATES:
                with self.subTest(many=many, thing=thing), self.assertRaises(NoGate):
                    plain_table(many).on(thing)

    def test_refuses_wires_that_it_has_not(self):
        for many in range(1, 5):
            for word, wires in each_gate(5, QUARTER_WORDS):
                if max(wires) >= many:
                    with self.subTest(many=many, word=word, wires=wires), self.assertRaises(NoWire):
                        plain_table(many).on(gate_of(word, wires))


class Readings(TableTest):
    def test_told_by_hand(self):
        self.assertEqual([SignTable([row]).told(0) for row in (X_ROW, Y_ROW, Z_ROW)], [None, None, 0])
        self.assertEqual([SignTable([(1,) + row[1:]]).told(0) for row in (X_ROW, Y_ROW, Z_ROW)], [None, None, 1])
        pair = SignTable(sign_rows("+xx -zz"))
        self.assertEqual((pair.told(0), pair.told(1)), (None, None))
        self.assertEqual(pair.read(0, 0).rows(), sign_rows("+zi -iz"))
        self.assertEqual(pair.read(0, 1).rows(), sign_rows("-zi +iz"))
        self.assertEqual(pair.read(1, 0).rows(), sign_rows("-zi +iz"))
        self.assertEqual((pair.read(0, 1).told(0), pair.read(0, 1).told(1)), (1, 0))
        # Neither row does z at the first wire alone; their product does.
        both = SignTable(sign_rows("-zz +iz"))
        self.assertEqual((both.told(0), both.told(1)), (1, 0))
        # Two rows do x at the last wire: their product goes with reading it.
        two = SignTable(sign_rows("+xix -ixx +zzz"))
        self.assertEqual(two.read(2, 1).rows(), sign_rows("-xxi -zzi -iiz"))
        self.assertEqual(two.read(2, 0).rows(), sign_rows("-xxi +zzi +iiz"))
        mixed = SignTable(sign_rows("-xzi +zxi -iiz"))
        self.assertEqual([mixed.told(wire) for wire in range(3)], [None, None, 1])
        self.assertEqual(mixed.read(0, 1).rows(), sign_rows("-ixi -zii -iiz"))

    def test_each_reading_of_each_table(self):
        chance = random.Random(720)
        for many in range(1, 6):
            for _ in range(10):
                table, worths = some_table(chance, many)
                self.assert_table(table, worths)
                for wire in range(many):
                    for bit in (0, 1):
                        left = read_worths(wire, str(bit), worths)
                        if any(own != NO_WORTH for own in left):
                            self.assert_table(table.read(wire, bit), left)
                            self.assertEqual(table.read(wire, bit).told(wire), bit)
                        else:
                            with self.assertRaises(NoTable):
                                table.read(wire, bit)

    def test_all_wires_one_behind_the_other(self):
        chance = random.Random(721)
        for many in range(1, 6):
            for _ in range(6):
                table, worths = some_table(chance, many)
                for wire in chance.sample(range(many), many):
                    bit = table.told(wire)
                    if bit is None:
                        bit = chance.randrange(2)
                    table, worths = table.read(wire, bit), read_worths(wire, str(bit), worths)
                    self.assert_table(table, worths)
                self.assertEqual(table.state().length(), (1, 0, 0))

    def test_gates_and_readings_mixed(self):
        chance = random.Random(722)
        for many in range(1, 6):
            table, worths = some_table(chance, many)
            for step in range(40):
                if chance.random() < 0.3:
                    wire = chance.randrange(many)
                    bit = chance.randrange(2) if table.told(wire) is None else table.told(wire)
                    table, worths = table.read(wire, bit), read_worths(wire, str(bit), worths)
                else:
                    word, wires = chance.choice(each_gate(many, QUARTER_WORDS))
                    table, worths = table.on(gate_of(word, wires)), gate_worths(word, wires, worths)
                if step % 4 == 0:
                    self.assert_table(table, worths)
                else:
                    self.assert_told_rows(table.rows(), worths)

    def test_told_is_read_and_changes_nothing(self):
        for many in range(1, 6):
            for row in range(2 ** many):
                table = plain_table(many)
                for wire in range(many):
                    if row >> (many - 1 - wire) & 1:
                        table = table.on(X(wire))
                self.assertEqual(table.state().eighths(), row_state(many, row).eighths())
                for wire in range(many):
                    bit = row >> (many - 1 - wire) & 1
                    self.assertEqual(table.told(wire), bit)
                    self.assertEqual(table.read(wire, bit).rows(), table.rows())
                    with self.assertRaises(NoTable):
                        table.read(wire, 1 - bit)

    def test_refuse_wires_that_are_none(self):
        for many in range(1, 6):
            table = plain_table(many)
            for wire in NO_NUMBERS + (-1, many, many + 1, 10 ** 30, X(0)):
                with self.subTest(many=many, wire=wire):
                    with self.assertRaises(NoWire):
                        table.told(wire)
                    for bit in (0, 1, 2, True, None):
                        with self.assertRaises(NoWire):
                            table.read(wire, bit)

    def test_refuse_bits_that_are_none(self):
        for table in (plain_table(2), plain_table(2).on(X(0)), plain_table(2).on(H(0)), SignTable(sign_rows("+xx -zz"))):
            for wire in (0, 1):
                for bit in NO_NUMBERS + (2, -1, 10 ** 30, "0"):
                    with self.subTest(table=table.rows(), bit=bit), self.assertRaises(NoTable):
                        table.read(wire, bit)


class Holds(unittest.TestCase):
    def test_its_state_however_multiplied(self):
        chance = random.Random(730)
        for many in range(1, 6):
            table = some_table(chance, many)[0]
            state = table.state()
            for turn in range(8):
                for roots in (0, 1, 5):
                    other = State([over_root(turned(one, turn), roots) for one in state.eighths()])
                    self.assertIs(table.holds(other), True)

    def test_nought_everywhere(self):
        for many in range(1, 6):
            self.assertIs(plain_table(many).holds(nought_state(many)), True)

    def test_no_other_state(self):
        chance = random.Random(731)
        for many in range(1, 6):
            table = some_table(chance, many)[0]
            for state in (mixed_state(many, 1), small_state(many, 2), State([(1 + at, 1, 0, 0, 0) for at in range(2 ** many)])):
                self.assertIs(table.holds(state), False)
            for at in range(2 ** many):
                eighths = table.state().eighths()
                eighths[at] = turned(eighths[at], 1) if eighths[at] != NOUGHT else ONE
                changed = State(eighths)
                self.assertIs(table.holds(changed), table.state().turn_to(changed) is not None)
        self.assertIs(plain_table(1).holds(begun(1, 1)), False)
        self.assertIs(plain_table(1).on(X(0)).holds(begun(1, 0)), False)
        self.assertIs(plain_table(1).on(X(0)).holds(begun(1, 1)), True)

    def test_each_row_is_asked(self):
        for many in range(1, 6):
            table = plain_table(many)
            for row in range(2 ** many):
                self.assertIs(table.holds(begun(many, row)), row == 0)

    def test_refuses_what_is_no_state_of_as_many_wires(self):
        for many in range(1, 6):
            others = tuple(begun(other, 0) for other in range(1, 6) if other != many)
            for thing in NO_STATES + others + (plain_table(many), X(0)):
                with self.subTest(many=many, thing=thing), self.assertRaises(NoState):
                    plain_table(many).holds(thing)


class States(TableTest):
    def test_told_by_hand(self):
        by_root, turned_by_root = (1, 0, 0, 0, 1), (-1, 0, 0, 0, 1)
        for rows, eighths in (
            ("+z", [ONE, NOUGHT]), ("-z", [NOUGHT, ONE]), ("+x", [by_root, by_root]), ("-x", [by_root, turned_by_root]),
            ("+y", [by_root, (0, 0, 1, 0, 1)]), ("-y", [by_root, (0, 0, -1, 0, 1)]),
            ("+xx +zz", [by_root, NOUGHT, NOUGHT, by_root]), ("-xx +zz", [by_root, NOUGHT, NOUGHT, turned_by_root]),
            ("+xx -zz", [NOUGHT, by_root, by_root, NOUGHT]), ("-xx -zz", [NOUGHT, by_root, turned_by_root, NOUGHT]),
            ("-zi +ix", [NOUGHT, NOUGHT, by_root, by_root]), ("-zi -iy", [NOUGHT, NOUGHT, by_root, (0, 0, -1, 0, 1)]),
            ("+xz +zx", [(1, 0, 0, 0, 2)] * 3 + [(-1, 0, 0, 0, 2)]),
            ("-zii -izi -iiz", [NOUGHT] * 7 + [ONE]),
            ("+xxx -zzi -izz", [NOUGHT, NOUGHT, by_root, NOUGHT, NOUGHT, by_root, NOUGHT, NOUGHT]),
        ):
            self.assertEqual(SignTable(sign_rows(rows)).state().eighths(), eighths, rows)

    def test_of_many_tables(self):
        chance = random.Random(740)
        for many in range(1, 6):
            for _ in range(12):
                table, worths = some_table(chance, many)
                self.assert_state(table.state(), worths)
                self.assertIs(table.holds(table.state()), True)

    def test_with_first_rows_that_are_nought(self):
        for many in range(1, 6):
            table = plain_table(many)
            for wire in range(many):
                table = table.on(X(wire))
            self.assertEqual(table.state().eighths(), row_state(many, 2 ** many - 1).eighths())
            by_root = table.on(H(many - 1)).state().eighths()
            self.assertEqual(by_root, [NOUGHT] * (2 ** many - 2) + [(1, 0, 0, 0, 1), (-1, 0, 0, 0, 1)])

    def test_all_wires_spread(self):
        for many in range(1, 6):
            table = plain_table(many)
            for wire in range(many):
                table = table.on(H(wire))
            self.assertEqual(table.state().eighths(), [(1, 0, 0, 0, many)] * 2 ** many)
            for wire in range(many):
                table = table.on(Z(wire)).on(S(wire)).on(R(wire)).on(Y(wire))
            self.assertEqual(table.state().length(), (1, 0, 0))


if __name__ == "__main__":
    unittest.main()
