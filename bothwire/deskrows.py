"""Rows of the desk: their forms, and what comes of them."""

from bothwire.alike import held
from bothwire.codes import Code
from bothwire.deskwords import bits_word, sign_row_word
from bothwire.lengths import length_text
from bothwire.mends import mends
from bothwire.runs import run
from bothwire.shorter import shortened
from bothwire.states import begun
from bothwire.tableruns import table_run
from bothwire.turnings import turning_circuit

# By the first word of a row: what the words behind it mean. A name that is told is always the first of these.
FORMS = {
    "circuit": ("name",),
    "join": ("name", "circuit", "circuit"),
    "undo": ("name", "circuit"),
    "short": ("name", "circuit"),
    "turn": ("name", "number"),
    "code": ("name", "sign row"),
    "far": ("code",),
    "mends": ("code", "number"),
    "show": ("circuit",),
    "run": ("circuit", "number"),
    "chance": ("circuit", "number", "bits"),
    "table": ("circuit",),
    "alike": ("circuit", "circuit"),
    "steps": ("circuit",),
}

# The rows whose last word may stand again and again.
ENDLESS = ("turn", "code")


def _joined(meant):
    one, other = meant
    return one.then(other)


def _undone(meant):
    return meant[0].back()


def _short(meant):
    left, _ = shortened(meant[0])
    return left


def _turning(meant):
    return turning_circuit(meant)


def _code(meant):
    return Code(meant)


# What a row makes, of the list of what the words behind its name mean.
MADE = {"join": _joined, "undo": _undone, "short": _short, "turn": _turning, "code": _code}


def _far(code):
    size = code.far()
    return "none" if size is None else str(size)


def _mends(code, size):
    found = mends(code, size)
    if found[0] == "mends":
        return f"mends {len(found[1])}"
    _, one, other = found
    return f"clash {sign_row_word(one)} {sign_row_word(other)}"


def _show(circuit):
    return _listed(circuit.told())


def _run(circuit, row):
    branches = run(circuit, begun(circuit.many(), row))
    return _listed([f"{bits_word(bits)} {length_text(state.length())}" for bits, state in branches])


def _chance(circuit, row, asked):
    for bits, state in run(circuit, begun(circuit.many(), row)):
        if bits == asked:
            return length_text(state.length())
    return "0"


def _table(circuit):
    return _listed([_table_text(bits, k, table) for bits, k, table in table_run(circuit)])


def _table_text(bits, k, table):
    return " ".join([f"{bits_word(bits)}/{k}"] + [sign_row_word(row) for row in table.rows()])


def _alike(one, other):
    found, told = held(one, other)
    if found == "alike":
        return f"alike {told}"
    return " ".join(["parted"] + [str(row) for row in told])


def _steps(circuit):
    _, steps = shortened(circuit)
    return str(len(steps))


def _listed(texts):
    """Texts with ; between; - where nothing is told."""
    return "; ".join(texts) if len(texts) > 0 else "-"


# The answer to a row, by what the words behind the first one mean.
TOLD = {
    "far": _far, "mends": _mends, "show": _show, "run": _run, "chance": _chance, "table": _table, "alike": _alike,
    "steps": _steps,
}
