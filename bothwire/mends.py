"""Mends: which errors up to a size can be undone in a code, and how."""

from bothwire.codes import Code
from bothwire.errorrows import each_error, size_of
from bothwire.errors import NoCode, NoState
from bothwire.kinds import MOST_WIRES, is_within
from bothwire.signs import done
from bothwire.states import is_state


def errors(many, size):
    """The errors of so many wires up to a size, by sizes, then as tuples are ordered; NoCode."""
    if not is_within(many, 1, MOST_WIRES) or not is_within(size, 0, many):
        raise NoCode("errors have 1 to 5 wires, and a size from 0 to that")
    found = each_error(many)
    return [error for own in range(size + 1) for error in found if size_of(error) == own]


def mends(code, size):
    """("mends", pairs), by signs the error that undoes all with these, or ("clash", one, other); NoCode."""
    if not isinstance(code, Code):
        raise NoCode("mends are told of a code")
    first = {}
    for error in errors(code.many(), size):
        one = first.setdefault(code.signs(error), error)
        # Till now all others with these signs were the same as the first one.
        if not code.same(one, error):
            return ("clash", one, error)
    return ("mends", sorted(first.items()))


def mended(code, pairs, state):
    """The state behind the error of its signs, by the pairs that mends tells; NoState."""
    if not is_state(state, code.many()):
        raise NoState("what is mended is a state of as many wires as the code")
    signs = tuple([_sign_in(row, state) for row in code.rows()])
    for own, error in pairs:
        if own == signs:
            return done(error, state)
    raise NoState("the state has no signs, or none that the pairs have")


def _sign_in(row, state):
    """0 where the row holds the state, 1 where it turns the state by four eighths; None where it does neither."""
    turn = state.turn_to(done(row, state))
    return None if turn is None else turn // 4
