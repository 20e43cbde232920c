"""A desk: voices that come one by one, and what a told way makes of them."""

from rulevoices.checks import MOST_VOICES, check_text, check_way
from rulevoices.errors import InvalidText, NothingToUndo, NotNow
from rulevoices.texts import text_of
from rulevoices.ways import matters, told_answer
from rulevoices.words import VOICES


class Desk:
    """The voices so far, none at first, and the answer of one told way to them."""

    def __init__(self, way):
        check_way(way)
        self._way = way
        self._row = ()
        self._answer = None

    def run(self, line):
        """Add the voice that a line says, or return the text that it asks for."""
        check_text(line)
        if line in VOICES:
            self._add(line)
            return None
        if line == "row":
            return text_of(self._row)
        if line == "answer":
            return "none" if self._answer is None else self._answer
        if line == "matters":
            return self._places()
        raise InvalidText("not a line of the desk")

    def undo(self):
        """Take the last voice back."""
        if len(self._row) == 0:
            raise NothingToUndo("there is no voice")
        self._keep(self._row[:-1])

    @property
    def row(self):
        """The tuple of the voices."""
        return self._row

    @property
    def answer(self):
        """The answer to the voices, None without a voice."""
        return self._answer

    def _add(self, voice):
        if len(self._row) == MOST_VOICES:
            raise NotNow("there are as many voices as there may be")
        self._keep(self._row + (voice,))

    def _keep(self, voices):
        self._row = voices
        # No way has an answer to no voices.
        self._answer = None if len(voices) == 0 else told_answer(self._way, voices)

    def _places(self):
        """Return the text of the places that matter."""
        places = () if len(self._row) == 0 else matters(self._way, self._row)
        return "none" if len(places) == 0 else " ".join(str(place) for place in places)
