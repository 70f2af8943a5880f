"""Promise 4: squares, and lengths, their sums, order and texts."""

import math
import unittest
from fractions import Fraction

from bothwire.lengths import is_less, length_sum, length_text, square
from bothwire.numbers import lowest, mirror, over_root, plus, times, turned
from tests.oracle import (
    NOUGHT, ONE, ROOT, W,
    is_length_told_rightly, length_told, length_worth, some_eighths, some_lengths, worth,
)

ZERO = (0, 0, 0)


def pells(many):
    """Pairs p, q with p over q ever nearer to root, by turns below and above it."""
    p, q = 1, 1
    found = []
    for _ in range(many):
        found.append((p, q))
        p, q = p + 2 * q, p + q
    return found


def is_above_nought(one):
    """Whether a length is above nought, by root between two near fractions."""
    p, q = length_worth(one)
    if p == q == 0:
        return False
    bits = 2 * (abs(one[0]) + abs(one[1])).bit_length() + 20
    low = Fraction(math.isqrt(2 << (2 * bits)), 1 << bits)
    high = low + Fraction(1, 1 << bits)
    ends = (p + q * low, p + q * high)
    assert min(ends) > 0 or max(ends) < 0
    return min(ends) > 0


class Square(unittest.TestCase):
    def test_told_by_hand(self):
        for one, told in (
            (NOUGHT, ZERO), (ONE, (1, 0, 0)), (W, (1, 0, 0)), (ROOT, (2, 0, 0)),
            ((3, 0, 0, 0, 0), (9, 0, 0)), ((-3, 0, 0, 0, 0), (9, 0, 0)),
            ((1, 0, 0, 0, 1), (1, 0, 1)), ((1, 0, 0, 0, 2), (1, 0, 2)),
            ((1, 1, 0, 0, 0), (2, 1, 0)), ((1, -1, 0, 0, 0), (2, -1, 0)),
            ((1, 0, 0, 1, 0), (2, -1, 0)), ((0, 1, 1, 0, 0), (2, 1, 0)), ((0, 0, 1, 1, 0), (2, 1, 0)),
            ((1, 0, 1, 0, 0), (2, 0, 0)), ((1, 1, 0, 0, 2), (2, 1, 2)),
            ((1, 2, 3, 4, 0), (30, 16, 0)), ((2, 2, 0, 0, 0), (8, 4, 0)),
        ):
            with self.subTest(one=one):
                self.assertEqual(square(one), told)

    def test_is_the_eighth_times_its_mirror(self):
        for one in some_eighths(21, 300):
            told = square(one)
            self.assertTrue(is_length_told_rightly(told), told)
            p, q = length_worth(told)
            self.assertEqual(worth(times(one, mirror(one))), (p, q, 0, -q))

    def test_is_never_below_nought(self):
        for one in some_eighths(22, 120):
            self.assertEqual(is_less(ZERO, square(one)), one != NOUGHT)
            self.assertFalse(is_less(square(one), ZERO))

    def test_turns_and_mirrors_keep_it(self):
        for one in some_eighths(23, 60):
            for many in range(-3, 8):
                self.assertEqual(square(turned(one, many)), square(one))
            self.assertEqual(square(mirror(one)), square(one))

    def test_over_root_halves_it(self):
        for one in some_eighths(24, 60):
            p, q, k = square(one)
            for many in (0, 1, 2, 9):
                self.assertEqual(square(over_root(one, many)), length_told(p, q, k + many))

    def test_keeps_the_k_of_an_eighth(self):
        # Of an eighth with a k above nought, p and q are never both even: its k is the least one.
        for one in some_eighths(30, 200):
            self.assertEqual(square(one)[2], one[4])
        for k in (0, 1, 2, 3, 4000):
            self.assertEqual(square((3, 2, 0, -1, k)), (14, 9, k))
        self.assertEqual(square((4, 0, 2, 0, 0)), (20, 0, 0))

    def test_vast_ones(self):
        one = lowest(10 ** 3999, -(10 ** 3999) - 1, 3, 5, 4000)
        p, q = length_worth(square(one))
        self.assertTrue(is_length_told_rightly(square(one)))
        self.assertEqual(worth(times(one, mirror(one))), (p, q, 0, -q))
        self.assertEqual(square((1, 0, 0, 0, 4000)), (1, 0, 4000))


class LengthSum(unittest.TestCase):
    def test_told_by_hand(self):
        for handed, told in (
            ([], ZERO), ([ZERO], ZERO), ([ZERO, ZERO], ZERO),
            ([(1, 0, 1), (1, 0, 1)], (1, 0, 0)),
            ([(1, 0, 1), (1, 0, 2), (1, 0, 2)], (1, 0, 0)),
            ([(1, 0, 3)], (1, 0, 3)),
            ([(1, 1, 2), (-1, -1, 2)], ZERO),
            ([(1, 1, 2), (1, -1, 2)], (1, 0, 1)),
            ([(1, 1, 2), (-1, 1, 2)], (0, 1, 1)),
            ([(3, 0, 2), (0, 1, 0)], (3, 4, 2)),
            ([(2, 1, 0), (2, 1, 0)], (4, 2, 0)),
            ([(-3, 2, 0), (1, 0, 5)], (-95, 64, 5)),
            ([(1, 0, 4000), (-1, 0, 4000), (0, 7, 0)], (0, 7, 0)),
            ([(1, 0, 4000), (2 ** 4000 - 1, 0, 4000)], (1, 0, 0)),
        ):
            with self.subTest(handed=handed):
                self.assertEqual(length_sum(handed), told)

    def test_sums_of_many(self):
        found = some_lengths(25, 90)
        for many in (1, 2, 3, 10, 90):
            for at in range(0, 90, 7):
                some = (found[at:] + found[:at])[:many]
                told = length_sum(some)
                self.assertTrue(is_length_told_rightly(told), told)
                worths = [length_worth(one) for one in some]
                self.assertEqual(length_worth(told), (sum(p for p, _ in worths), sum(q for _, q in worths)))

    def test_parts_add_up(self):
        for one in some_eighths(26, 60):
            halves = [square(over_root(one, 1))] * 2
            self.assertEqual(length_sum(halves), square(one))
            eighths = [square(over_root(one, 3))] * 8
            self.assertEqual(length_sum(eighths), square(one))

    def test_two_sides(self):
        # The squares of a sum and of a difference add up to twice those of both.
        found = some_eighths(27, 20)
        for one in found:
            for other in found:
                whole = length_sum([square(plus(one, other)), square(plus(one, turned(other, 4)))])
                self.assertEqual(whole, length_sum([square(one), square(one), square(other), square(other)]))

    def test_changes_nothing_that_is_handed_in(self):
        handed = [(1, 0, 1), (3, -1, 2), (0, 0, 0)]
        first = length_sum(handed)
        self.assertEqual(handed, [(1, 0, 1), (3, -1, 2), (0, 0, 0)])
        handed.append((1, 0, 0))
        self.assertEqual(first, (5, -1, 2))
        self.assertEqual(length_sum(handed), (9, -1, 2))


class IsLess(unittest.TestCase):
    def assert_rising(self, lengths):
        """Each of these lengths is less than all behind it, and none than those ahead or itself."""
        for at, one in enumerate(lengths):
            for place, other in enumerate(lengths):
                self.assertIs(is_less(one, other), at < place, (one, other))

    def test_told_by_hand(self):
        self.assert_rising([
            (-3, 0, 0), (0, -2, 0), (-1, -1, 0), (-3, 1, 0), (0, -1, 0), (-1, 0, 0), (0, -1, 1), (-3, 2, 0),
            ZERO, (3, -2, 0), (-1, 1, 1), (1, 0, 2), (-1, 1, 0), (1, 0, 1), (0, 1, 1), (1, 0, 0), (0, 1, 0),
            (3, 0, 1), (3, -1, 0), (2, 0, 0), (1, 1, 0), (0, 2, 0), (3, 0, 0),
        ])

    def test_none_is_less_than_itself(self):
        for one in some_lengths(28, 120) + [(1, -1, 4000), (10 ** 5000, -1, 3)]:
            self.assertIs(is_less(one, one), False)

    def test_each_pair(self):
        found = some_lengths(29, 50)
        for one in found:
            for other in found:
                p, q, k = one
                less = is_above_nought(length_sum([other, (-p, -q, k)]))
                self.assertIs(is_less(one, other), less, (one, other))

    def test_very_near_to_nought(self):
        for at, (p, q) in enumerate(pells(1200)):
            # p is below q root at even places, above it at odd ones.
            above = at % 2 == 1
            self.assertIs(is_less(ZERO, (p, -q, 0)), above, at)
            self.assertIs(is_less((p, -q, 0), ZERO), not above, at)
            self.assertIs(is_less(ZERO, (-p, q, 9)), not above, at)
            self.assertIs(is_less((-p, q, 9), ZERO), above, at)

    def test_very_near_to_one_another(self):
        steps = pells(900)
        for at in range(0, 898, 3):
            (p, q), (r, s) = steps[at], steps[at + 2]
            # p - q root goes to nought at every second place.
            nearer_is_less = at % 2 == 1
            self.assertIs(is_less((r, -s, 0), (p, -q, 0)), nearer_is_less, at)
            self.assertIs(is_less((p, -q, 0), (r, -s, 0)), not nearer_is_less, at)
            self.assertIs(is_less((p, 0, 5), (0, q, 5)), at % 2 == 0, at)
            self.assertIs(is_less((0, q, 5), (p, 0, 5)), at % 2 == 1, at)

    def test_of_unlike_k(self):
        self.assertIs(is_less((2 ** 4000 - 1, 0, 4000), (1, 0, 0)), True)
        self.assertIs(is_less((1, 0, 0), (2 ** 4000 - 1, 0, 4000)), False)
        self.assertIs(is_less((1, 0, 0), (2 ** 4000 + 1, 0, 4000)), True)
        self.assertIs(is_less((0, 1, 0), (2, 2 ** 300 - 1, 300)), True)
        self.assertIs(is_less((0, 1, 0), (1, 2 ** 300 - 1, 300)), False)
        self.assertIs(is_less((-1, 0, 4000), ZERO), True)
        self.assertIs(is_less(ZERO, (0, -1, 4000)), False)
        self.assertIs(is_less(ZERO, (0, 1, 4000)), True)
        self.assertIs(is_less((1, 0, 4000), (1, 0, 3999)), True)
        self.assertIs(is_less((-1, 0, 4000), (-1, 0, 3999)), False)
        low = math.isqrt(2 ** 8001)
        self.assertIs(is_less((low, 0, 4000), (0, 1, 0)), True)
        self.assertIs(is_less((low + 1, 0, 4000), (0, 1, 0)), False)
        self.assertIs(is_less((0, 1, 0), (low + 1, 0, 4000)), True)
        self.assertIs(is_less((0, -1, 0), (-low, 0, 4000)), True)
        self.assertIs(is_less((0, -1, 0), (-low - 1, 0, 4000)), False)

    def test_vast_ones(self):
        big = 10 ** 7999
        low = math.isqrt(2 * big * big)
        self.assertIs(is_less((low, 0, 0), (0, big, 0)), True)
        self.assertIs(is_less((low + 1, 0, 0), (0, big, 0)), False)
        self.assertIs(is_less((low + 1, -big, 17), ZERO), False)
        self.assertIs(is_less((low, -big, 17), ZERO), True)


class LengthText(unittest.TestCase):
    def test_told_by_hand(self):
        for one, text in (
            ((3, 0, 2), "3/4"), ((2, 1, 2), "2+1r/4"), ((2, -1, 0), "2-1r"), ((0, 1, 1), "1r/2"),
            (ZERO, "0"), ((1, 0, 0), "1"), ((-1, 0, 0), "-1"), ((7, 0, 0), "7"), ((10, 0, 0), "10"),
            ((0, 1, 0), "1r"), ((0, -1, 0), "-1r"), ((0, 5, 0), "5r"), ((0, -12, 0), "-12r"),
            ((1, 1, 0), "1+1r"), ((1, -1, 0), "1-1r"), ((-1, 1, 0), "-1+1r"), ((-1, -1, 0), "-1-1r"),
            ((1, 0, 1), "1/2"), ((-1, 0, 1), "-1/2"), ((0, -1, 1), "-1r/2"), ((0, -3, 4), "-3r/16"),
            ((-2, -3, 3), "-2-3r/8"), ((-2, 3, 3), "-2+3r/8"), ((20, -30, 0), "20-30r"),
            ((1, 2, 10), "1+2r/1024"), ((100, 7, 6), "100+7r/64"),
        ):
            with self.subTest(one=one):
                self.assertEqual(length_text(one), text)

    def test_of_squares(self):
        for one, text in (
            (NOUGHT, "0"), (ONE, "1"), (ROOT, "2"), ((1, 0, 0, 0, 1), "1/2"), ((1, 1, 0, 0, 2), "2+1r/4"),
            ((1, -1, 0, 0, 0), "2-1r"), ((1, -1, 0, 0, 3), "2-1r/8"), ((3, 2, 0, -2, 0), "17+12r"),
        ):
            self.assertEqual(length_text(square(one)), text)

    def test_some_hundred_figures(self):
        p, q = 3 ** 700, 7 ** 500
        for k in (1, 2, 63, 64, 65, 400, 4000):
            self.assertEqual(length_text((p, q, k)), str(p) + "+" + str(q) + "r/" + str(2 ** k))
            self.assertEqual(length_text((-p, -q, k)), "-" + str(p) + "-" + str(q) + "r/" + str(2 ** k))
        self.assertEqual(length_text((p, 0, 0)), str(p))
        self.assertEqual(length_text((0, -q, 0)), "-" + str(q) + "r")

    def test_figures_at_every_size(self):
        for many in list(range(1, 200)) + [256, 639, 640, 641]:
            for number in (10 ** many, 10 ** many - 1, 10 ** many + 1, 5 * 10 ** many + 10 ** (many // 2)):
                self.assertEqual(length_text((number, 0, 0)), str(number))
                self.assertEqual(length_text((0, -number, 0)), str(-number) + "r")

    def test_more_figures_than_python_writes_at_once(self):
        for many in (4299, 4300, 4301, 7999, 8001, 20000):
            noughts, nines = "0" * many, "9" * many
            self.assertEqual(length_text((10 ** many, 0, 0)), "1" + noughts)
            self.assertEqual(length_text((10 ** many - 1, 0, 0)), nines)
            self.assertEqual(length_text((-(10 ** many), 1 - 10 ** many, 2)), "-1" + noughts + "-" + nines + "r/4")
            self.assertEqual(length_text((0, 10 ** many + 123, 0)), "1" + "0" * (many - 3) + "123r")

    def test_of_the_square_of_a_vast_eighth(self):
        text = length_text(square((10 ** 3999, 0, 1, 0, 0)))
        self.assertEqual(text, "1" + "0" * 7997 + "1")

    def test_over_a_vast_two(self):
        text = length_text(square((1, 0, 0, 0, 4000)))
        self.assertEqual(text, "1/" + str(2 ** 4000))


if __name__ == "__main__":
    unittest.main()
