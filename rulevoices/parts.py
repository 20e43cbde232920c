"""The ways that keep "parts", each told by its answers to the six rows of one or two voices."""

from rulevoices.checks import check_row
from rulevoices.errors import NotParts
from rulevoices.promises import keeps_all
from rulevoices.rows import SMALL_ROWS, with_more
from rulevoices.words import VOICES

# How many of the rows that a table tells are of one or two voices.
_TOLD = 6


def is_parts(small):
    """Return whether a value is the tuple of the six answers of a way that keeps "parts"."""
    if not isinstance(small, tuple) or len(small) != _TOLD:
        return False
    if not all(item in VOICES for item in small):
        return False
    # If the rows of up to three voices may be parted anywhere, so may all longer ones.
    table = small + tuple(_by_parts(small, row) for row in SMALL_ROWS[_TOLD:])
    return keeps_all(table, ("parts",))


def parts_ways():
    """Return the ascending tuple of the tuples that tell a way that keeps "parts"."""
    return tuple(small for small in with_more([()], _TOLD) if is_parts(small))


def parts_answer(small, row):
    """Return the answer to a row of the way that keeps "parts" and is told by six answers."""
    if not is_parts(small):
        raise NotParts("not the answers of a way that goes by parts")
    check_row(row)
    return _by_parts(small, row)


def _by_parts(small, row):
    """Return the answer to a row by parting its last voice from all before it."""
    told = {short: voice for short, voice in zip(SMALL_ROWS, small)}
    now = told[row[:1]]
    for voice in row[1:]:
        now = told[(now, told[(voice,)])]
    return now
