"""Promises 2 (g) and 26: errors in order, tables of mends, states mended by them."""

import random
import unittest

from bothwire.circuits import Circuit
from bothwire.codes import Code
from bothwire.errors import NoCode, NoState
from bothwire.gates import X
from bothwire.mends import errors, mended, mends
from bothwire.numbers import turned
from bothwire.signs import done
from bothwire.signtables import SignTable
from bothwire.states import State, begun
from tests.codeoracle import errors_up_to, is_same, mends_told, rows_told, signs_of, size_told, some_errors, state_of_code
from tests.oracle import NOUGHT, ONE
from tests.stateoracle import mixed_state, nought_state, row_state
from tests.test_codes import FIVE, FOUR, KNOWN, THRICE, drawn_rows
from tests.test_signtables import sign_row, sign_rows
from tests.things import NO_NUMBERS, NO_STATES, Odd


def code_of(text):
    """The code of these sign rows."""
    return Code(sign_rows(text))


class Errors(unittest.TestCase):
    def test_told_by_hand(self):
        for many, size, text in (
            (1, 0, "+i"), (1, 1, "+i +z +x +y"), (2, 0, "+ii"), (2, 1, "+ii +iz +zi +ix +iy +xi +yi"),
            (2, 2, "+ii +iz +zi +ix +iy +xi +yi +zz +zx +zy +xz +yz +xx +xy +yx +yy"),
            (3, 1, "+iii +iiz +izi +zii +iix +iiy +ixi +iyi +xii +yii"), (5, 0, "+iiiii"),
        ):
            found = errors(many, size)
            self.assertIs(found.__class__, list)
            self.assertEqual(found, sign_rows(text), (many, size))

    def test_all_in_order(self):
        for many in range(1, 6):
            for size in range(many + 1):
                self.assertEqual(errors(many, size), errors_up_to(many, size))
        self.assertEqual([len(errors(5, size)) for size in range(6)], [1, 16, 106, 376, 781, 1024])

    def test_of_what_is_no_number_of_wires(self):
        for many in NO_NUMBERS + (0, 6, -1, 10 ** 30):
            for size in (0, 1, 5, True, None):
                with self.subTest(many=many, size=size), self.assertRaises(NoCode):
                    errors(many, size)

    def test_of_what_is_no_size(self):
        for many in range(1, 6):
            for size in NO_NUMBERS + (-1, many + 1, 10 ** 30):
                with self.subTest(many=many, size=size), self.assertRaises(NoCode):
                    errors(many, size)

    def test_what_is_told_is_free(self):
        errors(2, 1).clear()
        self.assertEqual(len(errors(2, 1)), 7)


class MendsTest(unittest.TestCase):
    def assert_mends(self, rows, size):
        """What is told is what a search of all pairs of errors tells; told is it, and by which."""
        code = Code(rows)
        told = code.rows()
        found = mends(code, size)
        self.assertIs(found.__class__, tuple)
        self.assertEqual(found, mends_told(told, size), (rows, size))
        if found[0] == "mends":
            self.assert_pairs(code, found[1], size)
        else:
            self.assert_clash(code, found[1], found[2], size)
        self.assertEqual(found[0] == "mends", code.far() is None or code.far() > 2 * size, (rows, size))
        self.assertEqual(code.rows(), told)
        return found[0]

    def assert_pairs(self, code, pairs, size):
        """Pairs of unlike signs, rising, each error with its signs; each error up to the size has its signs among them."""
        self.assertIs(pairs.__class__, list)
        self.assertTrue(all(pair.__class__ is tuple and len(pair) == 2 for pair in pairs))
        self.assertEqual([signs for signs, _ in pairs], sorted({signs for signs, _ in pairs}))
        for signs, error in pairs:
            self.assertEqual((signs, size_told(error) <= size), (code.signs(error), True))
        by_signs = dict(pairs)
        for error in errors_up_to(code.many(), size):
            self.assertTrue(code.same(by_signs[code.signs(error)], error))

    def assert_clash(self, code, one, other, size):
        """Two errors up to the size, of the same signs, not the same."""
        order = errors_up_to(code.many(), size)
        self.assertLess(order.index(one), order.index(other))
        self.assertEqual(code.signs(one), code.signs(other))
        self.assertFalse(code.same(one, other))
        self.assertFalse(is_same(code.rows(), one, other))


class Mends(MendsTest):
    def test_told_by_hand(self):
        self.assertEqual(mends(code_of("+z"), 0), ("mends", [((0,), sign_row("+i"))]))
        self.assertEqual(mends(code_of("+z"), 1), ("mends", [((0,), sign_row("+i")), ((1,), sign_row("+x"))]))
        self.assertEqual(mends(code_of("-x"), 1), ("mends", [((0,), sign_row("+i")), ((1,), sign_row("+z"))]))
        self.assertEqual(mends(code_of(THRICE), 0), ("mends", [((0, 0), sign_row("+iii"))]))
        self.assertEqual(mends(code_of(THRICE), 1), ("clash", sign_row("+iii"), sign_row("+iiz")))
        self.assertEqual(mends(code_of("+zz"), 1), ("clash", sign_row("+ii"), sign_row("+iz")))
        self.assertEqual(mends(code_of("+xx"), 1), ("clash", sign_row("+iz"), sign_row("+zi")))
        self.assertEqual(mends(code_of(FOUR), 1), ("clash", sign_row("+iiiz"), sign_row("+iizi")))
        self.assertEqual(mends(code_of("+xx +zz"), 1), ("mends", [
            ((0, 0), sign_row("+ii")), ((0, 1), sign_row("+ix")), ((1, 0), sign_row("+iz")), ((1, 1), sign_row("+iy")),
        ]))

    def test_of_the_five_wires_that_mend_each_error_of_one(self):
        found = mends(code_of(FIVE), 1)
        self.assertEqual((found[0], len(found[1])), ("mends", 16))
        self.assertEqual(sorted(error for _, error in found[1]), sorted(errors_up_to(5, 1)))
        self.assertEqual(mends(code_of(FIVE), 2)[0], "clash")

    def test_of_known_codes_and_drawn_ones_by_a_search_of_all_pairs(self):
        kinds = {"mends": 0, "clash": 0}
        for rows in [sign_rows(text) for text in KNOWN] + drawn_rows(601, 2):
            many = len(rows[0][1])
            # A search of all pairs of all errors of five wires would take long.
            for size in range(min(many, 2 if many == 5 else 4) + 1):
                kinds[self.assert_mends(rows, size)] += 1
        self.assertGreater(min(kinds.values()), 30)

    def test_size_0_mends_always(self):
        for rows in drawn_rows(602, 1):
            many = len(rows[0][1])
            nothing = (0, (0,) * many, (0,) * many)
            self.assertEqual(mends(Code(rows), 0), ("mends", [((0,) * len(rows), nothing)]))

    def test_of_as_many_rows_as_wires_all_sizes_mend(self):
        for rows in drawn_rows(603, 1):
            many = len(rows[0][1])
            if len(rows) == many:
                told = rows_told(rows)
                for size in range(many + 1):
                    found = mends(Code(rows), size)
                    self.assertEqual(found[0], "mends")
                    signs = {signs_of(told, error) for error in errors_up_to(many, size)}
                    self.assertEqual([own for own, _ in found[1]], sorted(signs))
                self.assertEqual(len(found[1]), 2 ** many)

    def test_of_whole_size_by_a_search(self):
        for text in ("+zziii +izzii +iizzi +iiizz", "+xxxxx"):
            self.assert_mends(sign_rows(text), 5)

    def test_what_is_told_is_free(self):
        code = code_of(THRICE)
        found = mends(code, 0)[1]
        found.clear()
        self.assertEqual(mends(code, 0)[1], [((0, 0), sign_row("+iii"))])

    def test_of_what_is_no_code(self):
        for thing in (
            None, 0, True, "code", [], sign_rows(THRICE), sign_row("+z"), (), {}, SignTable(sign_rows("+z")), begun(1, 0), Odd(), Code,
            Circuit(1, [X(0)]),
        ):
            for size in (0, 1, None):
                with self.subTest(thing=thing), self.assertRaises(NoCode):
                    mends(thing, size)

    def test_of_what_is_no_size(self):
        for text in ("+z", "+zi", "+zzi +izz", "+xxxx", FIVE):
            code = code_of(text)
            for size in NO_NUMBERS + (-1, code.many() + 1, 10 ** 30):
                with self.subTest(code=text, size=size), self.assertRaises(NoCode):
                    mends(code, size)


class MendedTest(unittest.TestCase):
    def assert_mended(self, code, pairs, state, error):
        """A state of the code is had back behind the error and the mending, but for a turn."""
        spoilt = done(error, state)
        handed, kept = spoilt.eighths(), list(pairs)
        found = mended(code, pairs, spoilt)
        self.assertIsInstance(found, State)
        self.assertIsNotNone(state.turn_to(found), (code.rows(), error))
        self.assertIs(code.holds(found), True)
        # It is what the error of these signs does, no more.
        self.assertEqual(found.eighths(), done(dict(pairs)[code.signs(error)], spoilt).eighths())
        self.assertEqual((spoilt.eighths(), pairs), (handed, kept))


class Mended(MendedTest):
    def test_told_by_hand(self):
        # Whatever comes of a 0 and a 1 three times over, one wire put the other way is put back.
        code = code_of(THRICE)
        pairs = [((0, 0), sign_row("+iii")), ((0, 1), sign_row("+ixi")), ((1, 0), sign_row("+xii")), ((1, 1), sign_row("+iix"))]
        for first, last in ((ONE, NOUGHT), (NOUGHT, ONE), (ONE, (0, 1, 0, 0, 2))):
            state = State([first] + [NOUGHT] * 6 + [last])
            for error in ("+iii", "+xii", "+ixi", "+iix"):
                self.assertEqual(mended(code, pairs, done(sign_row(error), state)).eighths(), state.eighths())

    def test_each_error_up_to_the_size(self):
        done_so = 0
        for at, rows in enumerate([sign_rows(text) for text in KNOWN] + drawn_rows(604, 1)):
            code = Code(rows)
            for size in (0, 1, 2):
                found = mends(code, size) if size <= code.many() else ("clash",)
                if found[0] == "mends":
                    chance = random.Random(at)
                    order = errors_up_to(code.many(), size)
                    for error in chance.sample(order, min(len(order), 16)):
                        self.assert_mended(code, found[1], state_of_code(rows, 3 * at + size), error)
                        done_so += 1
        self.assertGreater(done_so, 200)

    def test_each_error_of_one_wire_in_states_of_the_five(self):
        code = code_of(FIVE)
        pairs = mends(code, 1)[1]
        for seed in (1, 2):
            state = state_of_code(code.rows(), seed)
            for error in errors_up_to(5, 1):
                self.assert_mended(code, pairs, state, error)

    def test_errors_that_are_the_same_are_mended_too(self):
        code = code_of("+xzzxi +ixzzx +xixzz +zxixz -zzzzz")
        pairs = mends(code, 5)[1]
        state = state_of_code(code.rows(), 9)
        for error in some_errors(605, 5, 40):
            self.assert_mended(code, pairs, state, error)

    def test_states_that_are_not_spoilt(self):
        for at, rows in enumerate(drawn_rows(606, 1)):
            code = Code(rows)
            state = state_of_code(rows, at)
            for pairs in (mends(code, 0)[1], mends(code, code.many())[1] if code.far() is None else mends(code, 0)[1]):
                self.assertEqual(mended(code, pairs, state).eighths(), state.eighths())

    def test_nought_everywhere(self):
        for rows in drawn_rows(607, 1):
            code = Code(rows)
            state = nought_state(code.many())
            self.assertEqual(mended(code, mends(code, 0)[1], state).eighths(), state.eighths())

    def test_turned_states(self):
        code = code_of(FIVE)
        pairs = mends(code, 1)[1]
        state = state_of_code(code.rows(), 3)
        for turn in range(8):
            own = State([turned(one, turn) for one in state.eighths()])
            self.assertEqual(mended(code, pairs, done(sign_row("+iixii"), own)).eighths(), own.eighths())

    def test_two_errors_of_a_clash_leave_the_same_signs_and_unlike_states(self):
        # So no one error mends both: behind the one's mend the other's state is another one, for some state.
        for text in (THRICE, FOUR, "+zz", "+xxxxx"):
            code = code_of(text)
            _, one, other = mends(code, 1)
            unlike = 0
            for seed in range(4):
                state = state_of_code(code.rows(), seed)
                pairs = [(code.signs(one), one)]
                self.assertIsNotNone(state.turn_to(mended(code, pairs, done(one, state))))
                unlike += state.turn_to(mended(code, pairs, done(other, state))) is None
            self.assertGreater(unlike, 0, text)

    def test_by_the_pairs_that_are_handed_in(self):
        code = code_of("+z")
        state = row_state(1, 1)
        for error in ("+i", "+x", "+y", "+z"):
            pairs = [((0,), sign_row("+i")), ((1,), sign_row(error))]
            self.assertEqual(mended(code, pairs, state).eighths(), done(sign_row(error), state).eighths())


class MendedRefused(unittest.TestCase):
    def assert_refused(self, code, pairs, state):
        handed = list(pairs)
        with self.assertRaises(NoState):
            mended(code, pairs, state)
        self.assertEqual(pairs, handed)

    def test_what_is_no_state_of_as_many_wires(self):
        for text in ("+z", "+zi", THRICE, FOUR, FIVE):
            code = code_of(text)
            pairs = mends(code, 0)[1]
            others = tuple(begun(many, 0) for many in range(1, 6) if many != code.many())
            others += tuple(nought_state(many) for many in range(1, 6) if many != code.many())
            for thing in NO_STATES + others + (code, sign_row("+z")):
                with self.subTest(code=text, thing=thing):
                    self.assert_refused(code, pairs, thing)
                    self.assert_refused(code, [], thing)

    def test_states_without_signs(self):
        for text, state in (
            ("+z", State([ONE, ONE])), ("+x", row_state(1, 0)), ("+y", row_state(1, 1)), ("+zz", State([ONE, ONE, NOUGHT, NOUGHT])),
            ("+xx +zz", row_state(2, 0)), ("+xx +zz", row_state(2, 2)), (FIVE, row_state(5, 0)), (FIVE, mixed_state(5, 3)),
            (THRICE, State([ONE, (0, 1, 0, 0, 0)] + [NOUGHT] * 6)), ("+z", State([ONE, (1, 0, 0, 0, 4000)])),
        ):
            code = code_of(text)
            for size in (0, 1):
                found = mends(code, size)
                if found[0] == "mends":
                    self.assert_refused(code, found[1], state)

    def test_a_state_with_one_sign_of_two(self):
        # ziz holds it, izz neither holds nor turns it.
        code = code_of(THRICE)
        pairs = [((0, 0), sign_row("+iii")), ((0, 1), sign_row("+ixi"))]
        self.assert_refused(code, pairs, State([ONE, NOUGHT, ONE] + [NOUGHT] * 5))
        self.assertEqual(mended(code, pairs, row_state(3, 2)).eighths(), row_state(3, 0).eighths())

    def test_signs_that_are_not_among_the_pairs(self):
        for text in ("+z", "+zz", THRICE, FOUR, FIVE):
            code = code_of(text)
            pairs = mends(code, 0)[1]
            state = state_of_code(code.rows(), 5)
            for error in errors_up_to(code.many(), 1):
                if 1 in code.signs(error):
                    self.assert_refused(code, pairs, done(error, state))
            self.assert_refused(code, [], state)
            self.assert_refused(code, [], nought_state(code.many()))


if __name__ == "__main__":
    unittest.main()
