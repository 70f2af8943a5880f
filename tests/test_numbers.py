"""Promise 3, and the mirror of promise 4: eighths, told with the least k."""

import cmath
import random
import unittest

from bothwire.errors import NoNumber, WireError
from bothwire.numbers import is_eighth, lowest, mirror, over_root, plus, times, turned
from tests.oracle import (
    NOUGHT, ONE, ROOT, SIZES, W,
    eighth_told, is_told_rightly, product_worth, some_eighths, some_numbers, sum_worth, worth, worth_over_root,
)

NO_NUMBERS = (True, False, "1", "", None, (1,), [1], {}, b"1", {1})


class EighthTest(unittest.TestCase):
    def assert_worth(self, one, parts):
        """The eighth is worth these parts, and is told with the least k."""
        self.assertTrue(is_told_rightly(one), one)
        self.assertEqual(worth(one), tuple(parts))


class Lowest(EighthTest):
    def test_told_by_hand(self):
        for handed, told in (
            ((1, 0, 0, 0, 0), (1, 0, 0, 0, 0)),
            ((2, 0, 0, 0, 0), (2, 0, 0, 0, 0)),
            ((0, 1, 0, -1, 0), (0, 1, 0, -1, 0)),
            ((0, 1, 0, -1, 1), (1, 0, 0, 0, 0)),
            ((2, 0, 0, 0, 1), (0, 1, 0, -1, 0)),
            ((2, 0, 0, 0, 2), (1, 0, 0, 0, 0)),
            ((2, 0, 0, 0, 3), (1, 0, 0, 0, 1)),
            ((1, 0, 1, 0, 1), (0, 1, 0, 0, 0)),
            ((1, 0, 0, 0, 7), (1, 0, 0, 0, 7)),
            ((1, 1, 1, 1, 1), (0, 1, 1, 0, 0)),
            ((1, 1, 1, 1, 2), (0, 1, 1, 0, 1)),
            ((1, 2, 3, 4, 5), (-1, 2, 3, 1, 4)),
            ((-2, 4, 6, -8, 2), (-1, 2, 3, -4, 0)),
        ):
            with self.subTest(handed=handed):
                self.assertEqual(lowest(*handed), told)

    def test_nought_of_every_k(self):
        for k in (0, 1, 2, 3, 4000, 10 ** 30):
            self.assertEqual(lowest(0, 0, 0, 0, k), NOUGHT)

    def test_several_steps_at_once(self):
        for steps in (1, 2, 3, 4, 5, 40, 41, 4000):
            a, b, c, d, _ = eighth_told(3, 0, -1, 5, 0)
            for _ in range(steps):
                a, b, c, d = b - d, a + c, b + d, c - a
            for left in (0, 1, 2, 9):
                with self.subTest(steps=steps, left=left):
                    told = lowest(a, b, c, d, steps + left)
                    self.assertEqual(told, eighth_told(3, 0, -1, 5, left))
            self.assertEqual(lowest(a, b, c, d, 0), (a, b, c, d, 0))

    def test_twos_beyond_k_stay(self):
        for k in range(8):
            self.assert_worth(lowest(1024, 0, 0, 0, k), worth_over_root((1024, 0, 0, 0), k))
            self.assert_worth(lowest(0, 3 * 1024, -1024, 0, k), worth_over_root((0, 3 * 1024, -1024, 0), k))

    def test_sizes_and_signs(self):
        for a in SIZES:
            for c in SIZES:
                for k in (0, 1, 2, 5, 1000, 1003):
                    self.assert_worth(lowest(a, c, -a, 2, k), worth_over_root((a, c, -a, 2), k))

    def test_many_of_mixed_sizes(self):
        chance = random.Random(31)
        for _ in range(600):
            numbers, k = some_numbers(chance), chance.choice((0, 1, 2, 3, 8, 21, 64, 65))
            with self.subTest(numbers=numbers, k=k):
                self.assert_worth(lowest(*numbers, k), worth_over_root(numbers, k))
                self.assertEqual(lowest(*numbers, k), eighth_told(*numbers, k))

    def test_vast_numbers_and_k(self):
        vast = 10 ** 3999
        self.assert_worth(lowest(vast, -vast, vast + 1, 0, 4000), worth_over_root((vast, -vast, vast + 1, 0), 4000))
        self.assertEqual(lowest(0, 0, 2 ** 2000, 0, 4000), (0, 0, 1, 0, 0))
        self.assertEqual(lowest(0, 0, 2 ** 2000, 0, 3999), (0, 1, 0, 1, 0))
        self.assertEqual(lowest(0, 0, 2 ** 1999, 0, 4000), (0, 0, 1, 0, 2))
        self.assertEqual(lowest(10 ** 20000, 0, 0, 0, 0), (10 ** 20000, 0, 0, 0, 0))


class IsEighth(EighthTest):
    def test_of_eighths(self):
        for one in some_eighths(5, 300):
            with self.subTest(one=one):
                self.assertIs(is_eighth(one), True)

    def test_of_small_tuples(self):
        parts = (-2, -1, 0, 1, 2)
        for a in parts:
            for b in parts:
                for c in parts:
                    for d in (0, 1, -2):
                        for k in (-1, 0, 1, 2, 3):
                            one = (a, b, c, d, k)
                            self.assertIs(is_eighth(one), is_told_rightly(one), one)

    def test_vast_ones(self):
        self.assertIs(is_eighth((10 ** 3999, 0, -1, 0, 4000)), True)
        self.assertIs(is_eighth((10 ** 3999, 0, 0, 0, 4000)), False)
        self.assertIs(is_eighth((1, 0, 0, 0, 4000)), True)
        self.assertIs(is_eighth((2 ** 9000, 0, 0, 0, 0)), True)
        self.assertIs(is_eighth((2 ** 9000, 0, 0, 0, 1)), False)

    def test_not_of_the_least_k(self):
        for one in (
            (2, 0, 0, 0, 1), (2, 0, 0, 0, 2), (0, 1, 0, -1, 1), (1, 0, 1, 0, 1),
            (1, 1, 1, 1, 3), (4, 2, 8, 0, 7), (0, 0, 2, 0, 1), (-1, 3, 5, -7, 2),
        ):
            self.assertIs(is_eighth(one), False, one)

    def test_nought_has_one_form(self):
        self.assertIs(is_eighth(NOUGHT), True)
        for k in (1, 2, 3, 4000, -1, -2):
            self.assertIs(is_eighth((0, 0, 0, 0, k)), False)

    def test_k_below_nought(self):
        for k in (-1, -2, -4000):
            self.assertIs(is_eighth((1, 0, 0, 0, k)), False)
            self.assertIs(is_eighth((2, 0, 4, 0, k)), False)

    def test_other_lengths(self):
        for thing in ((), (1,), (0, 0, 0, 0), (1, 0, 0, 0), (1, 0, 0, 0, 0, 0), (1, 0, 0), (ONE,), (ONE, 0, 0, 0, 0)):
            self.assertIs(is_eighth(thing), False, thing)

    def test_no_tuples(self):
        class Odd:
            pass

        for thing in (
            [1, 0, 0, 0, 0], [], "10000", "", b"10000", 1, 0, True, False, None, {}, set(), {1, 2, 3, 4, 5},
            {0: 1, 1: 0, 2: 0, 3: 0, 4: 0}, frozenset((1, 2, 3, 4, 5)), range(5), Odd(), Odd, len, iter(ONE),
        ):
            self.assertIs(is_eighth(thing), False, thing)

    def test_no_numbers_inside(self):
        for place in range(5):
            for thing in NO_NUMBERS:
                for one in (ONE, NOUGHT, (1, 1, 0, 0, 1)):
                    mixed = one[:place] + (thing,) + one[place + 1:]
                    self.assertIs(is_eighth(mixed), False, mixed)


class Plus(EighthTest):
    def test_told_by_hand(self):
        for one, other, told in (
            (ONE, ONE, (2, 0, 0, 0, 0)),
            (ONE, NOUGHT, ONE),
            (ONE, (-1, 0, 0, 0, 0), NOUGHT),
            ((1, 0, 0, 0, 2), (1, 0, 0, 0, 2), ONE),
            ((1, 0, 0, 0, 1), (1, 0, 0, 0, 1), ROOT),
            ((1, 0, 0, 0, 1), (0, 0, 1, 0, 1), W),
            ((1, 0, 0, 0, 1), ONE, (1, 1, 0, -1, 1)),
            ((1, 0, 0, 0, 3), (3, 0, 0, 0, 3), ROOT),
            ((1, 0, 0, 0, 4), (3, 0, 0, 0, 4), ONE),
            ((1, 0, 0, 0, 9), (-1, 0, 0, 0, 9), NOUGHT),
            ((0, 1, 0, 0, 3), (1, 0, 0, 0, 0), (0, 3, 0, -2, 3)),
        ):
            with self.subTest(one=one, other=other):
                self.assertEqual(plus(one, other), told)
                self.assertEqual(plus(other, one), told)

    def test_each_pair(self):
        found = some_eighths(7, 45)
        for one in found:
            for other in found:
                self.assert_worth(plus(one, other), sum_worth(worth(one), worth(other)))

    def test_what_is_added_goes_when_taken_off(self):
        for one, other in zip(some_eighths(8, 60), reversed(some_eighths(9, 60))):
            self.assertEqual(plus(plus(one, other), turned(other, 4)), one)
            self.assertEqual(plus(one, turned(one, 4)), NOUGHT)

    def test_vast_ones(self):
        vast = lowest(10 ** 3998 + 1, -(7 ** 4000), 2, 3, 3999)
        other = lowest(3, 10 ** 3998, 1, 0, 4000)
        for one, two in ((vast, other), (vast, ONE), (other, NOUGHT), (vast, vast)):
            self.assert_worth(plus(one, two), sum_worth(worth(one), worth(two)))
        self.assertEqual(plus((1, 0, 0, 0, 4000), (2 ** 2000 - 1, 0, 0, 0, 4000)), ONE)


class Times(EighthTest):
    def test_told_by_hand(self):
        for one, other, told in (
            (ONE, W, W),
            (NOUGHT, (5, 6, 7, 8, 9), NOUGHT),
            (W, W, (0, 0, 1, 0, 0)),
            ((0, 0, 1, 0, 0), (0, 0, 1, 0, 0), (-1, 0, 0, 0, 0)),
            ((0, 0, 0, 1, 0), (0, 0, 0, 1, 0), (0, 0, -1, 0, 0)),
            ((0, 0, 0, 1, 0), W, (-1, 0, 0, 0, 0)),
            (ROOT, ROOT, (2, 0, 0, 0, 0)),
            (ROOT, (1, 0, 0, 0, 1), ONE),
            ((1, 0, 0, 0, 1), (1, 0, 0, 0, 1), (1, 0, 0, 0, 2)),
            ((1, 1, 0, 0, 1), (1, -1, 0, 0, 1), (0, 0, 0, -1, 1)),
            ((1, 2, 3, 4, 0), (5, 6, 7, 8, 0), (-56, -36, 2, 60, 0)),
        ):
            with self.subTest(one=one, other=other):
                self.assertEqual(times(one, other), told)
                self.assertEqual(times(other, one), told)

    def test_each_pair(self):
        found = some_eighths(11, 45)
        for one in found:
            for other in found:
                self.assert_worth(times(one, other), product_worth(worth(one), worth(other)))

    def test_over_sums(self):
        found = some_eighths(12, 12)
        for one in found:
            for other in found:
                for third in found[::3]:
                    whole = times(one, plus(other, third))
                    self.assertEqual(whole, plus(times(one, other), times(one, third)))

    def test_simpler_by_several_steps(self):
        for many in (1, 2, 3, 10, 11, 200, 201):
            root_many = ONE
            for _ in range(many):
                root_many = times(root_many, ROOT)
            self.assertEqual(times(over_root(W, many), root_many), W)
        self.assertEqual(times((1, 0, 0, 0, 4000), (2 ** 2000, 0, 0, 0, 0)), ONE)
        self.assertEqual(times((1, 0, 0, 0, 3999), (2 ** 2000, 0, 0, 0, 0)), ROOT)

    def test_vast_ones(self):
        one = lowest(10 ** 3998 + 1, -(7 ** 4000), 2, 3, 1999)
        other = lowest(3, 10 ** 3998, -(11 ** 3000), 0, 2000)
        self.assert_worth(times(one, other), product_worth(worth(one), worth(other)))


class Mirror(EighthTest):
    def test_told_by_hand(self):
        for one, told in (
            (NOUGHT, NOUGHT), (ONE, ONE), (ROOT, ROOT),
            (W, (0, 0, 0, -1, 0)),
            ((0, 0, 1, 0, 0), (0, 0, -1, 0, 0)),
            ((0, 0, 0, 1, 0), (0, -1, 0, 0, 0)),
            ((1, 2, 3, 4, 0), (1, -4, -3, -2, 0)),
            ((-5, 0, 0, 7, 9), (-5, -7, 0, 0, 9)),
        ):
            self.assertEqual(mirror(one), told)

    def test_w_7_in_the_place_of_w(self):
        for one in some_eighths(13, 200):
            a, b, c, d, k = one
            parts = [worth_over_root(part, k) for part in ((a, 0, 0, 0), (0, 0, 0, -b), (0, 0, -c, 0), (0, -d, 0, 0))]
            total = parts[0]
            for part in parts[1:]:
                total = sum_worth(total, part)
            self.assert_worth(mirror(one), total)
            self.assertEqual(mirror(mirror(one)), one)

    def test_of_sums_and_products(self):
        found = some_eighths(14, 25)
        for one in found:
            for other in found:
                self.assertEqual(mirror(plus(one, other)), plus(mirror(one), mirror(other)))
                self.assertEqual(mirror(times(one, other)), times(mirror(one), mirror(other)))

    def test_of_turns(self):
        for many in range(8):
            self.assertEqual(mirror(turned(ONE, many)), turned(ONE, 8 - many))


class Turned(EighthTest):
    def test_told_by_hand(self):
        one = (1, 2, 3, 4, 7)
        for many, told in enumerate((
            (1, 2, 3, 4, 7), (-4, 1, 2, 3, 7), (-3, -4, 1, 2, 7), (-2, -3, -4, 1, 7),
            (-1, -2, -3, -4, 7), (4, -1, -2, -3, 7), (3, 4, -1, -2, 7), (2, 3, 4, -1, 7),
        )):
            for rounds in (0, 1, -1, 12, -12, 10 ** 40, -(10 ** 40)):
                self.assertEqual(turned(one, many + 8 * rounds), told)

    def test_is_times_w(self):
        for one in some_eighths(15, 60):
            so_far = one
            for many in range(20):
                self.assertEqual(turned(one, many), so_far)
                self.assertEqual(turned(so_far, -many), one)
                self.assertTrue(is_told_rightly(so_far))
                so_far = times(so_far, W)

    def test_nought_stays(self):
        for many in (0, 1, 7, -1, 10 ** 50):
            self.assertEqual(turned(NOUGHT, many), NOUGHT)

    def test_refuses_what_is_no_number(self):
        for many in NO_NUMBERS:
            for one in (ONE, NOUGHT):
                with self.subTest(many=many), self.assertRaises(NoNumber):
                    turned(one, many)


class OverRoot(EighthTest):
    def test_told_by_hand(self):
        for one, many, told in (
            (ONE, 0, ONE), (ONE, 1, (1, 0, 0, 0, 1)), (ONE, 2, (1, 0, 0, 0, 2)),
            (ROOT, 1, ONE), (ROOT, 3, (1, 0, 0, 0, 2)), (ROOT, 0, ROOT),
            ((2, 0, 0, 0, 0), 1, ROOT), ((2, 0, 0, 0, 0), 2, ONE), ((2, 0, 0, 0, 0), 3, (1, 0, 0, 0, 1)),
            (NOUGHT, 0, NOUGHT), (NOUGHT, 1, NOUGHT), (NOUGHT, 4000, NOUGHT), (NOUGHT, 10 ** 5000, NOUGHT),
            ((1, 0, 0, 0, 5), 4, (1, 0, 0, 0, 9)), (ONE, 4000, (1, 0, 0, 0, 4000)),
            ((2 ** 2000, 0, 0, 0, 0), 4000, ONE),
        ):
            with self.subTest(one=one, many=many):
                self.assertEqual(over_root(one, many), told)

    def test_by_many(self):
        for one in some_eighths(16, 80):
            for many in (0, 1, 2, 3, 8, 15, 300, 3001):
                self.assert_worth(over_root(one, many), worth_over_root(one[:4], one[4] + many))
            self.assertEqual(over_root(one, 0), one)
            self.assertEqual(times(over_root(one, 1), ROOT), one)

    def test_refuses_what_is_no_number(self):
        for many in NO_NUMBERS:
            for one in (ONE, NOUGHT):
                with self.subTest(many=many), self.assertRaises(NoNumber):
                    over_root(one, many)

    def test_refuses_below_nought(self):
        for many in (-1, -2, -4000, -(10 ** 5000)):
            for one in (ONE, NOUGHT, (1, 0, 0, 0, 4000)):
                with self.assertRaises(NoNumber):
                    over_root(one, many)

    def test_a_refusal_is_a_wire_error(self):
        with self.assertRaises(WireError):
            over_root(ONE, -1)
        with self.assertRaises(WireError):
            turned(ONE, None)


class TheOracle(EighthTest):
    """The tests' own reckoning stands on the plain meaning: w an eighth of a turn, root above nought."""

    def test_worths_are_points_of_the_plane(self):
        w = cmath.exp(1j * cmath.pi / 4)
        for one in ((1, 2, 3, 4, 0), (1, -1, 0, 2, 1), (3, 0, 5, 0, 2), (0, 1, 1, -7, 5)):
            plain = (one[0] + one[1] * w + one[2] * w ** 2 + one[3] * w ** 3) / 2 ** (one[4] / 2)
            parts = worth(one)
            reckoned = sum(float(part) * w ** at for at, part in enumerate(parts))
            self.assertLess(abs(plain - reckoned), 1e-9)


if __name__ == "__main__":
    unittest.main()
