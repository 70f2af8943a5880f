"""Lists of sign rows of which each two go together: their products, and which of these are told of them."""

from bothwire.signs import done, goes_with, is_sign_row, product


def bits_in_order(row):
    """The bits of a sign row, xs, then zs, a tuple."""
    _, xs, zs = row
    return xs + zs


def does_nothing(row):
    """Whether a sign row does nothing but perhaps turn."""
    return 1 not in bits_in_order(row)


def told_of(rows, many):
    """The rows that are told of a list of sign rows of so many wires, as many as these.

    None where they are none such, do not go together, or one, or a product of some, does nothing.
    """
    if not _are_alike_wide(rows, many) or not _go_together(rows):
        return None
    told = _reduced(rows)
    return None if does_nothing(told[-1]) else told


def all_hold(rows, state):
    """Whether all these sign rows hold a state of as many wires."""
    return all([done(row, state).eighths() == state.eighths() for row in rows])


def together(one, other):
    """The sign row that two sign rows come to that go together."""
    m, (_, xs, zs) = product(one, other)
    return (m // 2, xs, zs)


def left_over(rows, row):
    """What is left of a sign row that goes with all told rows, once these have taken out all they can."""
    for lead in rows:
        row = _without(row, lead, bits_in_order(lead).index(1))
    return row


def _are_alike_wide(rows, many):
    """Whether all things in a list are sign rows of so many wires."""
    return all([is_sign_row(row) and len(row[1]) == many for row in rows])


def _go_together(rows):
    """Whether each two of these sign rows go together."""
    return all([goes_with(one, other) for at, one in enumerate(rows) for other in rows[:at]])


def _reduced(rows):
    """As many rows with the same products, first those that are told of them.

    By the bits in order the first one that is 1 comes farther behind from row to row, and each
    other row has 0 there. The rows behind these do nothing but perhaps turn.
    """
    found = list(rows)
    at = 0
    for place in range(len(bits_in_order(rows[0]))):
        having = [k for k in range(at, len(found)) if bits_in_order(found[k])[place] == 1]
        if len(having) > 0:
            lead = found.pop(having[0])
            found = [_without(row, lead, place) for row in found]
            found.insert(at, lead)
            at += 1
    return found


def _without(row, lead, place):
    """The sign row by the lead, where it has a 1 at the place; else the row itself."""
    if bits_in_order(row)[place] == 1:
        return together(row, lead)
    return row
