"""Promises 24 and 25: codes, the signs of errors in them, which are the same, how far apart they are."""

import itertools
import random
import unittest

from bothwire.circuits import Circuit
from bothwire.codes import Code
from bothwire.errors import NoCode, NoState
from bothwire.gates import X
from bothwire.signs import done, goes_with
from bothwire.signtables import SignTable, plain_table
from bothwire.states import State, begun
from tests.codeoracle import (
    all_products, bits_of_all, errors_up_to, far_told, is_same, product_bits, rows_told, signs_of, some_errors, state_of_code,
)
from tests.oracle import NOUGHT, ONE
from tests.signoracle import each_sign_row
from tests.stateoracle import nought_state, row_state, small_state
from tests.test_signs import NO_SIGN_ROWS
from tests.test_signtables import mixed_products, sign_row, sign_rows, some_table
from tests.things import NO_STATES, Odd

# A code of each kind that is known well: of five wires that mends each error of one; of rows alike;
# of four wires that tells an error of one wire; of n rows.
FIVE = "+xzzxi +ixzzx +xixzz +zxixz"
THRICE = "+zzi +izz"
FOUR = "+xxxx +zzzz"
KNOWN = (
    FIVE, THRICE, FOUR, "+z", "-y", "+zi", "+xx", "+xx +zz", "-zz", "+xyz", "+zzzzz", "+ziiii", "+xxxxx +zziii",
    "+zziii +izzii +iizzi +iiizz", "+xxiii +iixxi +zzzzz", "+xzzxi +ixzzx +xixzz +zxixz -zzzzz",
)


def some_code_rows(chance, many, count):
    """Rows of a code of so many wires, so many rows."""
    return mixed_products(chance, some_table(chance, many)[0].rows())[:count]


def drawn_rows(seed, times):
    """Rows of codes of each number of wires and of rows."""
    chance = random.Random(seed)
    found = []
    for many in range(1, 6):
        for count in range(1, many + 1):
            for _ in range(times):
                found.append(some_code_rows(chance, many, count))
    return found


class Made(unittest.TestCase):
    def test_told_by_hand(self):
        for rows, told in (
            ("+z", "+z"), ("-x", "-x"), ("+zz", "+zz"), ("+zi +iz", "+zi +iz"), ("+iz +zi", "+zi +iz"), ("+zz +iz", "+zi +iz"),
            ("-zz +iz", "-zi +iz"), ("-yy +zz", "+xx +zz"), ("+zzi +izz", "+ziz +izz"), ("-izz +zzi", "-ziz -izz"),
            ("+xxxx +yyyy", "+xxxx +zzzz"), ("+zzzz +yyyy", "+xxxx +zzzz"), ("+iiz", "+iiz"), ("+izz +ziz +iiz", "+zii +izi +iiz"),
        ):
            code = Code(sign_rows(rows))
            self.assertIs(code.rows().__class__, list)
            self.assertEqual(code.many(), len(rows.split(" ")[0]) - 1)
            self.assertEqual(code.rows(), sign_rows(told), rows)

    def test_of_each_number_of_wires_and_rows_by_all_products(self):
        for rows in drawn_rows(501, 3):
            handed = list(rows)
            code = Code(rows)
            self.assertEqual(rows, handed)
            self.assertEqual(code.many(), len(rows[0][1]))
            self.assertEqual(code.rows(), rows_told(rows), rows)
            self.assertEqual(len(code.rows()), len(rows))

    def test_rows_in_other_orders(self):
        for text in (THRICE, "+xxx +zzi +izz", "+xzzxi +ixzzx +xixzz", "-yyi +zzi"):
            told = Code(sign_rows(text)).rows()
            for order in itertools.permutations(sign_rows(text)):
                self.assertEqual(Code(list(order)).rows(), told)

    def test_products_of_rows(self):
        chance = random.Random(502)
        for rows in drawn_rows(503, 2):
            told = Code(rows).rows()
            for _ in range(3):
                self.assertEqual(Code(mixed_products(chance, rows)).rows(), told)
            self.assertEqual(Code(told).rows(), told)

    def test_of_as_many_rows_as_wires_it_tells_those_of_the_table(self):
        chance = random.Random(504)
        for many in range(1, 6):
            table = some_table(chance, many)[0]
            self.assertEqual(Code(mixed_products(chance, table.rows())).rows(), table.rows())

    def test_each_pair_of_two_wires(self):
        for one, other in itertools.product(each_sign_row(2), repeat=2):
            nothing = ((0, 0), (0, 0))
            if goes_with(one, other) and one[1:] != other[1:] and nothing not in (one[1:], other[1:]):
                self.assertEqual(Code([one, other]).rows(), SignTable([one, other]).rows())
            else:
                with self.assertRaises(NoCode):
                    Code([one, other])

    def test_each_single_row(self):
        for many in (1, 2, 3):
            for row in each_sign_row(many):
                if 1 in row[1] + row[2]:
                    self.assertEqual((Code([row]).rows(), Code([row]).many()), ([row], many))


class Refused(unittest.TestCase):
    def assert_refused(self, rows):
        with self.assertRaises(NoCode):
            Code(rows)

    def test_what_is_no_list(self):
        for thing in (
            (), (sign_row("+z"),), sign_row("+z"), tuple(sign_rows(FIVE)), None, 0, 1, True, "+z", {}, {0: sign_row("+z")},
            {sign_row("+z")}, iter([sign_row("+z")]), plain_table(1), Code([sign_row("+z")]), Odd(),
        ):
            with self.subTest(thing=thing):
                self.assert_refused(thing)

    def test_no_rows(self):
        self.assert_refused([])

    def test_what_are_no_sign_rows(self):
        for thing in NO_SIGN_ROWS:
            with self.subTest(thing=thing):
                self.assert_refused([thing])
                self.assert_refused([thing, sign_row("+iz")])
                self.assert_refused([sign_row("+zi"), thing])

    def test_too_many_rows(self):
        self.assert_refused(sign_rows("+z +z"))
        self.assert_refused(sign_rows("+zi +iz +zz"))
        self.assert_refused(sign_rows("+xx +zz -yy"))
        for many in range(1, 6):
            rows = plain_table(many).rows()
            self.assert_refused(rows + [rows[0]])
            self.assert_refused(rows + rows)
            self.assert_refused(rows * 20)

    def test_unlike_wires(self):
        for text in ("+zi +z", "+z +iz", "+zii +izi +iz", "+zzi +zz", "+zzzzz +zzzz"):
            self.assert_refused(sign_rows(text))

    def test_rows_that_do_not_go_together(self):
        for text in ("+zi +xi", "+xx +iz", "+zi +yi", "+xy +xx", "+zii +ixi +iyi", "+xii +ziz", "+zzi +izz +xii", "+xzzxi +zxixz +iiiix"):
            self.assert_refused(sign_rows(text))

    def test_a_row_that_does_nothing(self):
        for many in range(1, 6):
            for sign in "+-":
                nothing = sign_row(sign + "i" * many)
                self.assert_refused([nothing])
                self.assert_refused([sign_row("+" + "z" * many), nothing])
                self.assert_refused([nothing, sign_row("+" + "z" * many)])

    def test_a_product_of_some_that_does_nothing(self):
        for text in (
            "+zz +zz", "+zz -zz", "+xxi +zzi +yyi", "-zzi +izz +ziz", "+zzi +izz +ziz", "+xxxi +xxxi",
            "+zziii +izzii +iizzi +ziizi", "+xxiii +zziii -yyiii +iiizz",
        ):
            self.assert_refused(sign_rows(text))


class Signs(unittest.TestCase):
    def test_told_by_hand(self):
        for rows, error, signs in (
            ("+z", "+i", (0,)), ("+z", "+x", (1,)), ("+z", "+y", (1,)), ("+z", "+z", (0,)), ("-z", "+x", (1,)), ("-z", "+z", (0,)),
            ("+xx +zz", "+xi", (0, 1)), ("+xx +zz", "+zi", (1, 0)), ("+xx +zz", "+yi", (1, 1)), ("+xx +zz", "+yx", (1, 0)),
            # Told are ziz and izz.
            (THRICE, "+xii", (1, 0)), (THRICE, "+ixi", (0, 1)), (THRICE, "+iix", (1, 1)), (THRICE, "+xxx", (0, 0)),
            (THRICE, "+zii", (0, 0)), (THRICE, "+iii", (0, 0)),
        ):
            self.assertEqual(Code(sign_rows(rows)).signs(sign_row(error)), signs, (rows, error))

    def test_by_unlike_doings(self):
        for at, rows in enumerate(drawn_rows(505, 2)):
            code = Code(rows)
            told = code.rows()
            for error in some_errors(at, code.many(), 30):
                found = code.signs(error)
                self.assertIs(found.__class__, tuple)
                self.assertTrue(all(sign.__class__ is int for sign in found))
                self.assertEqual(found, signs_of(told, error))

    def test_what_an_error_makes_of_the_states_of_the_code(self):
        # Behind the error a row holds the state where its sign is 0, and turns it by four eighths else.
        for at, rows in enumerate(drawn_rows(506, 1)):
            code = Code(rows)
            state = state_of_code(code.rows(), at)
            for error in some_errors(at, code.many(), 6):
                spoilt = done(error, state)
                turns = [spoilt.turn_to(done(row, spoilt)) for row in code.rows()]
                self.assertEqual(tuple(4 * sign for sign in code.signs(error)), tuple(turns))


class Same(unittest.TestCase):
    def test_told_by_hand(self):
        for rows, one, other, same in (
            ("+z", "+i", "+z", True), ("-z", "+i", "+z", True), ("+z", "+x", "+y", True), ("+z", "+i", "+x", False),
            ("+z", "+x", "+x", True), ("+xx +zz", "+xi", "+ix", True), ("+xx +zz", "+ii", "+yy", True), ("+xx +zz", "+xi", "+iz", False),
            ("+xx +zz", "+xy", "+iz", True), (THRICE, "+zii", "+izi", True), (THRICE, "+zii", "+iii", False), (THRICE, "+xxx", "+iii", False),
            (THRICE, "+xii", "+ixx", False), (THRICE, "+zzi", "+ziz", True), ("+zzi", "+zii", "+izi", True), ("+zzi", "+izi", "+iiz", False),
        ):
            code = Code(sign_rows(rows))
            self.assertIs(code.same(sign_row(one), sign_row(other)), same, (rows, one, other))
            self.assertIs(code.same(sign_row(other), sign_row(one)), same)

    def test_by_all_products(self):
        counts = {True: 0, False: 0}
        for at, rows in enumerate(drawn_rows(507, 1)):
            code = Code(rows)
            drawn = some_errors(at, code.many(), 8)
            # Errors by a product of rows, so that some are the same.
            nothing = sorted(bits_of_all(rows))
            drawn += [(0,) + product_bits(error[1:], nothing[at % len(nothing)]) for error in drawn]
            for one, other in itertools.product(drawn, repeat=2):
                expected = is_same(rows, one, other)
                self.assertIs(code.same(one, other), expected, (rows, one, other))
                counts[expected] += 1
        self.assertGreater(min(counts.values()), 400)

    def test_each_two_errors_of_two_wires(self):
        for rows in ("+xx", "+zi", "-xy", "+xx +zz", "-zi +iy"):
            code = Code(sign_rows(rows))
            for one, other in itertools.product(errors_up_to(2, 2), repeat=2):
                self.assertIs(code.same(one, other), is_same(sign_rows(rows), one, other))

    def test_the_same_do_the_same_but_for_a_turn(self):
        for at, rows in enumerate(drawn_rows(508, 1)):
            code = Code(rows)
            state = state_of_code(code.rows(), at)
            for one in some_errors(at, code.many(), 3):
                for product in all_products(rows)[:8]:
                    other = (0,) + product_bits(one[1:], product[1:])
                    self.assertIs(code.same(one, other), True)
                    self.assertIsNotNone(done(one, state).turn_to(done(other, state)))


class Far(unittest.TestCase):
    def test_told_by_hand(self):
        for rows, far in (
            (FIVE, 3), (THRICE, 1), (FOUR, 2), ("+z", None), ("-y", None), ("+zi", 1), ("+xx", 1), ("+xx +zz", None), ("+zzzzz", 1),
            ("+xxxxx +zziii", 1), ("+zziii +izzii +iizzi +iiizz", 1), ("+xzzxi +ixzzx +xixzz +zxixz -zzzzz", None),
            ("+xzzxi +ixzzx +xixzz", 1), ("+zi +iz", None), ("+iz", 1), ("+xxxxi +zzzzi", 1), ("+xxxxi +zzzzi +iiiiz", 2),
        ):
            self.assertEqual(Code(sign_rows(rows)).far(), far, rows)

    def test_by_a_search_of_all_errors(self):
        for rows in drawn_rows(509, 1) + [sign_rows(text) for text in KNOWN]:
            found = Code(rows).far()
            self.assertEqual(found, far_told(rows), rows)
            self.assertIn(found.__class__, (int, type(None)))
            self.assertIs(found is None, len(rows) == len(rows[0][1]))


class Holds(unittest.TestCase):
    def test_told_by_hand(self):
        code = Code(sign_rows("+zz"))
        for row, holds in ((0, True), (1, False), (2, False), (3, True)):
            self.assertIs(code.holds(row_state(2, row)), holds)
            self.assertIs(Code(sign_rows("-zz")).holds(row_state(2, row)), not holds)
        self.assertIs(code.holds(State([ONE, NOUGHT, NOUGHT, (0, 1, 0, 0, 3)])), True)
        self.assertIs(code.holds(State([ONE, ONE, NOUGHT, ONE])), False)
        self.assertIs(Code(sign_rows("+xx +zz")).holds(State([ONE, NOUGHT, NOUGHT, ONE])), True)
        self.assertIs(Code(sign_rows("+xx +zz")).holds(State([ONE, NOUGHT, NOUGHT, (-1, 0, 0, 0, 0)])), False)

    def test_nought_everywhere(self):
        for rows in drawn_rows(510, 1):
            self.assertIs(Code(rows).holds(nought_state(len(rows[0][1]))), True)

    def test_states_of_the_code_and_others(self):
        for at, rows in enumerate(drawn_rows(511, 1)):
            code = Code(rows)
            many = code.many()
            state = state_of_code(rows, at)
            self.assertIs(code.holds(state), True)
            self.assertIs(code.holds(state_of_code(code.rows(), at)), True)
            for other in (small_state(many, at), row_state(many, at % 2 ** many)):
                self.assertIs(code.holds(other), all(done(row, other).eighths() == other.eighths() for row in rows))
            for error in some_errors(at, many, 8):
                self.assertIs(code.holds(done(error, state)), 1 not in signs_of(rows, error))
            # A row the other way about is held by none of these but that which is nought everywhere.
            turn, xs, zs = rows[-1]
            self.assertIs(Code(rows[:-1] + [(1 - turn, xs, zs)]).holds(state), False)

    def test_refuses_what_is_no_state_of_as_many_wires(self):
        for rows in ("+z", "+zi", "+zz +xx", "+zzi +izz", "+xxxx", FIVE):
            code = Code(sign_rows(rows))
            others = tuple(begun(many, 0) for many in range(1, 6) if many != code.many())
            for thing in NO_STATES + others + (code, Circuit(1, [X(0)]), sign_row("+z")):
                with self.subTest(rows=rows, thing=thing), self.assertRaises(NoState):
                    code.holds(thing)


class ErrorsRefused(unittest.TestCase):
    def no_errors(self, many):
        """What is no error of so many wires."""
        nothing = (0,) * many
        others = tuple((0, (0,) * other, (1,) * other) for other in range(1, 6) if other != many)
        turning = ((1, nothing, nothing), (1, (1,) * many, nothing), (1, nothing, (1,) * many))
        return NO_SIGN_ROWS + others + turning + (Code([(0, (1,) * many, nothing)]), begun(many, 0))

    def test_signs_and_same(self):
        for many in range(1, 6):
            code = Code([(0, (1,) * many, (0,) * many)])
            fine = (0, (0,) * many, (1,) * many)
            for thing in self.no_errors(many):
                with self.subTest(many=many, thing=thing):
                    with self.assertRaises(NoCode):
                        code.signs(thing)
                    for one, other in ((thing, fine), (fine, thing), (thing, thing)):
                        with self.assertRaises(NoCode):
                            code.same(one, other)
            self.assertEqual(code.signs(fine), (many % 2,))


class AskersOwn(unittest.TestCase):
    def test_what_is_told_and_handed_in_is_free(self):
        rows = sign_rows(FIVE)
        code = Code(rows)
        told = code.rows()
        rows.clear()
        code.rows().clear()
        code.rows().append(sign_row("+zzzzz"))
        self.assertEqual(code.rows(), told)
        self.assertEqual((code.many(), code.far()), (5, 3))
        state = state_of_code(told, 1)
        eighths = state.eighths()
        code.holds(state)
        self.assertEqual(state.eighths(), eighths)

    def test_what_is_refused_changes_nothing(self):
        rows = sign_rows("+zi +xi")
        with self.assertRaises(NoCode):
            Code(rows)
        self.assertEqual(rows, sign_rows("+zi +xi"))
        code = Code(sign_rows("+zz"))
        for thing in (sign_row("-xx"), None):
            with self.assertRaises(NoCode):
                code.signs(thing)
        self.assertEqual((code.rows(), code.signs(sign_row("+xi"))), (sign_rows("+zz"), (1,)))


if __name__ == "__main__":
    unittest.main()
