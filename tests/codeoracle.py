"""What codes and errors come to, reckoned in another way than the program does: by all products, by search."""

import functools
import random

from bothwire.numbers import plus
from bothwire.signs import done
from bothwire.states import State
from tests.signoracle import bits_choices, done_worths, told_rows
from tests.stateoracle import small_state


def sized_worths(many):
    """Worths of so many wires that no two sign rows make the same of."""
    return [(at + 1, 3 * at * at + 2, 0, 7) for at in range(2 ** many)]


def product_of(one, other):
    """The sign row that two come to that go together, told by what it does."""
    xs = tuple(int(x != y) for x, y in zip(one[1], other[1]))
    zs = tuple(int(x != y) for x, y in zip(one[2], other[2]))
    worths = sized_worths(len(xs))
    both = done_worths(one, done_worths(other, worths))
    fitting = [(turn, xs, zs) for turn in (0, 1) if done_worths((turn, xs, zs), worths) == both]
    assert len(fitting) == 1
    return fitting[0]


def all_products(rows):
    """Each product of some of these sign rows, that of none among them."""
    many = len(rows[0][1])
    found = [(0, (0,) * many, (0,) * many)]
    for row in rows:
        found += [product_of(one, row) for one in found]
    return found


def rows_told(rows):
    """The rows that are told of a code of these ones."""
    return told_rows(all_products(rows))


def bits_of_all(rows):
    """The bits of all products of these sign rows: of what an error is that does nothing in the code."""
    found = {((0,) * len(rows[0][1]), (0,) * len(rows[0][1]))}
    for row in rows:
        found |= {product_bits(bits, row[1:]) for bits in found}
    return found


def product_bits(one, other):
    """The bits xs and zs of a product."""
    return tuple(tuple(int(x != y) for x, y in zip(left, right)) for left, right in zip(one, other))


def signs_of(rows, error):
    """For each row whether an odd number of wires have unlike doings, none of them nothing."""
    found = []
    for row in rows:
        pairs = zip(zip(row[1], row[2]), zip(error[1], error[2]))
        found.append(sum((0, 0) not in (one, other) and one != other for one, other in pairs) % 2)
    return tuple(found)


def is_same(rows, one, other):
    """Whether two errors' product is, but for the turn, a product of some of these rows."""
    return product_bits(one[1:], other[1:]) in bits_of_all(rows)


def size_told(error):
    """At how many wires an error does something."""
    return sum(pair != (0, 0) for pair in zip(error[1], error[2]))


def errors_up_to(many, size):
    """All errors up to a size, by sizes, then as tuples are ordered."""
    found = [(0, xs, zs) for xs in bits_choices(many) for zs in bits_choices(many)]
    return sorted((error for error in found if size_told(error) <= size), key=lambda error: (size_told(error), error))


def far_told(rows):
    """The least size of an error without signs that isn't the same as doing nothing, or None."""
    nothing = bits_of_all(rows)
    sizes = [
        size_told(error) for error in errors_up_to(len(rows[0][1]), len(rows[0][1]))
        if 1 not in signs_of(rows, error) and error[1:] not in nothing
    ]
    return min(sizes) if sizes else None


def mends_told(rows, size):
    """What mends tells of a code of these told rows, by a search of all pairs of errors of the same signs."""
    nothing = {number_of(bits) for bits in bits_of_all(rows)}
    by_signs = {}
    for error in errors_up_to(len(rows[0][1]), size):
        ahead = by_signs.setdefault(signs_of(rows, error), [])
        for one in ahead:
            if number_of(one[1:]) ^ number_of(error[1:]) not in nothing:
                return ("clash", one, error)
        ahead.append(error)
    return ("mends", sorted((signs, ahead[0]) for signs, ahead in by_signs.items()))


@functools.cache
def number_of(bits):
    """The bits xs and zs as one number."""
    return int("".join(str(bit) for part in bits for bit in part), 2)


def state_of_code(rows, seed):
    """A state that all rows hold: what they make of a drawn one, added up; it isn't nought everywhere."""
    for more in range(seed, seed + 60):
        state = small_state(len(rows[0][1]), more)
        for row in rows:
            pairs = zip(state.eighths(), done(row, state).eighths())
            state = State([plus(one, other) for one, other in pairs])
        if state.length() != (0, 0, 0):
            return state
    raise AssertionError("no state of the code was drawn")


def some_errors(seed, many, count):
    """Errors of so many wires, drawn."""
    chance = random.Random(seed)
    return [
        (0, tuple(chance.randrange(2) for _ in range(many)), tuple(chance.randrange(2) for _ in range(many)))
        for _ in range(count)
    ]
