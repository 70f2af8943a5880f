"""What eighths and lengths are worth, reckoned in another way than the program does.

An eighth is worth four fractions, what it has of 1, w, w ** 2, w ** 3; these are its own. A
length is worth two fractions, what it has of 1 and of root.
"""

import random
from fractions import Fraction

ROOT = (0, 1, 0, -1, 0)
NOUGHT = (0, 0, 0, 0, 0)
ONE = (1, 0, 0, 0, 0)
W = (0, 1, 0, 0, 0)

# Edges of sizes and signs, small and vast.
SIZES = (0, 1, -1, 2, -2, 3, 7, -8, 10 ** 20, -(3 ** 300), 2 ** 500, 2 ** 500 + 1)


def product_worth(one, other):
    """The product of two worths of eighths, by w ** 4 = -1."""
    parts = [Fraction(0)] * 4
    for i in range(4):
        for j in range(4):
            part = one[i] * other[j]
            if i + j < 4:
                parts[i + j] += part
            else:
                parts[i + j - 4] -= part
    return tuple(parts)


def worth_over_root(parts, many):
    """A worth by root ** many, in one over root at a time once the twos are gone."""
    parts = tuple(Fraction(part, 2 ** (many // 2)) for part in parts)
    if many % 2 == 1:
        parts = product_worth(parts, (0, Fraction(1, 2), 0, Fraction(-1, 2)))
    return parts


def worth(one):
    """What an eighth is worth."""
    return worth_over_root(one[:4], one[4])


def sum_worth(one, other):
    """The sum of two worths."""
    return tuple(x + y for x, y in zip(one, other))


def is_told_rightly(one):
    """Whether a tuple is plain numbers with the least k: times root ** (k - 1) it isn't whole."""
    if not (isinstance(one, tuple) and len(one) == 5):
        return False
    if any(part.__class__ is not int for part in one) or one[4] < 0:
        return False
    if one[:4] == (0, 0, 0, 0):
        return one[4] == 0
    if one[4] == 0:
        return True
    return any(part.denominator != 1 for part in worth_over_root(one[:4], 1))


def length_worth(one):
    """What a length is worth: of 1, and of root."""
    p, q, k = one
    return (Fraction(p, 2 ** k), Fraction(q, 2 ** k))


def is_length_told_rightly(one):
    """Whether a tuple is plain numbers with the least k from 0 on."""
    if not (isinstance(one, tuple) and len(one) == 3):
        return False
    if any(part.__class__ is not int for part in one) or one[2] < 0:
        return False
    return one[2] == 0 or one[0] % 2 == 1 or one[1] % 2 == 1


def length_told(p, q, k):
    """The length (p + q root) / 2 ** k, halved one time after the other."""
    while k > 0 and p % 2 == 0 and q % 2 == 0:
        p, q, k = p // 2, q // 2, k - 1
    return (p, q, k)


def eighth_told(a, b, c, d, k):
    """The eighth of these numbers, one root after the other taken out."""
    if (a, b, c, d) == (0, 0, 0, 0):
        return NOUGHT
    while k > 0:
        parts = worth_over_root((a, b, c, d), 1)
        if any(part.denominator != 1 for part in parts):
            break
        a, b, c, d = (int(part) for part in parts)
        k -= 1
    return (a, b, c, d, k)


def some_numbers(chance):
    """Four numbers, of mixed sizes and signs, often with twos and roots in common."""
    size = chance.choice((1, 2, 5, 100, 2 ** 70, 10 ** 400))
    numbers = [chance.randint(-size, size) for _ in range(4)]
    if chance.random() < 0.5:
        numbers = [number * 2 ** chance.randint(0, 9) for number in numbers]
    if chance.random() < 0.3:
        numbers[chance.randrange(4)] = 0
    return numbers


def some_eighths(seed, many):
    """Eighths as told, the same ones for the same seed; nought, one, w and root among them."""
    chance = random.Random(seed)
    found = [NOUGHT, ONE, W, ROOT, (-1, 0, 0, 0, 0), (1, 0, 0, 0, 1), (1, 0, 0, 0, 2), (3, -1, 0, 2, 5)]
    while len(found) < many:
        k = chance.choice((0, 0, 1, 2, 3, 4, 9, 60, 61))
        found.append(eighth_told(*some_numbers(chance), k))
    return found


def some_lengths(seed, many):
    """Lengths as told, of unlike k and signs."""
    chance = random.Random(seed)
    found = [(0, 0, 0), (1, 0, 0), (0, 1, 0), (0, -1, 3), (-1, 0, 2), (3, -2, 0), (-3, 2, 4)]
    while len(found) < many:
        p, q = some_numbers(chance)[:2]
        found.append(length_told(p, q, chance.choice((0, 0, 1, 2, 7, 30))))
    return found
