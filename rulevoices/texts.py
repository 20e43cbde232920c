"""The texts of rows and of tables: a sign for each voice."""

from rulevoices.checks import MOST_VOICES, check_row, check_table, check_text
from rulevoices.errors import InvalidText
from rulevoices.rows import SMALL_ROWS

_SIGN_OF = {"allow": "+", "deny": "-"}
_VOICE_OF = {"+": "allow", "-": "deny"}


def text_of(voices):
    """Return the text of any number of voices; nothing is checked here."""
    return "".join(_SIGN_OF[voice] for voice in voices)


def write_row(row):
    """Return the text of a row."""
    check_row(row)
    return text_of(row)


def read_row(text):
    """Return the row that a text tells."""
    check_text(text)
    return _read(text, 1, MOST_VOICES)


def write_table(table):
    """Return the text of a table."""
    check_table(table)
    return text_of(table)


def read_table(text):
    """Return the table that a text tells."""
    check_text(text)
    return _read(text, len(SMALL_ROWS), len(SMALL_ROWS))


def _read(text, least, most):
    """Return the voices that a string tells, if they are neither too few nor too many."""
    if not least <= len(text) <= most:
        raise InvalidText("not as many signs as there must be")
    if not all(sign in _VOICE_OF for sign in text):
        raise InvalidText("not all signs are those of a voice")
    return tuple(_VOICE_OF[sign] for sign in text)
