"""The desk: circuits and codes by names, made and asked by rows of words."""

from bothwire.circuits import Circuit
from bothwire.codes import Code
from bothwire.deskrows import ENDLESS, FORMS, MADE, TOLD
from bothwire.deskwords import bits_meant, number_meant, sign_row_meant
from bothwire.errors import NoRow, WireError
from bothwire.kinds import is_name, words_of
from bothwire.texts import read


class Desk:
    """A desk, which keeps what each name means."""

    def __init__(self):
        self._things = {}
        # The name of the circuit whose text is told just now, and the rows of that text so far.
        self._begun = None
        self._rows = []

    def say(self, row):
        """The answer to a row; NoRow, then as the stages tell."""
        if not isinstance(row, str):
            raise NoRow("a row of the desk is a text")
        words = words_of(row)
        if self._begun is not None:
            return self._go_on(row, words)
        if len(words) == 0 or words[0] not in FORMS:
            raise NoRow("there is no row of the desk that begins so")
        return self._answer(words[0], self._meant(words[0], words[1:]))

    def play(self, rows):
        """The answers of a new desk to a list of rows; of what is refused `refused`."""
        desk = Desk()
        return [_answer_of(desk, row) for row in rows]

    def _go_on(self, row, words):
        """The answer to a row of a circuit's text, or to the one behind it."""
        if words != ["over"]:
            self._rows.append(row)
            return ""
        name, rows = self._begun, self._rows
        # It is over all the same where the text is refused.
        self._begun, self._rows = None, []
        self._things[name] = read("".join([own + "\n" for own in rows]))
        return "ok"

    def _answer(self, word, meant):
        """The answer to a row, by its first word and what those behind it mean."""
        if word == "circuit":
            self._begun = meant[0]
            return ""
        if word in MADE:
            make = MADE[word]
            self._things[meant[0]] = make(meant[1:])
            return "ok"
        tell = TOLD[word]
        return tell(*meant)

    def _meant(self, word, others):
        """What the words behind the first one mean, a list; NoRow where the row has no such form."""
        kinds = FORMS[word]
        if word in ENDLESS:
            kinds = kinds + kinds[-1:] * (len(others) - len(kinds))
        if len(kinds) != len(others):
            raise NoRow("the row has too few words, or too many")
        meant = [self._meaning(kind, other) for kind, other in zip(kinds, others)]
        if None in meant:
            raise NoRow("a word of the row is not of the kind that stands there")
        return meant

    def _meaning(self, kind, word):
        """What a word of a kind means; None where it is none such."""
        if kind == "name":
            return word if is_name(word) else None
        if kind == "number":
            return number_meant(word)
        if kind == "bits":
            return bits_meant(word)
        if kind == "sign row":
            return sign_row_meant(word)
        thing = self._things.get(word)
        fits = isinstance(thing, Circuit) if kind == "circuit" else isinstance(thing, Code)
        return thing if fits else None


def _answer_of(desk, row):
    """A desk's answer to a row, or `refused`."""
    try:
        return desk.say(row)
    except WireError:
        return "refused"
