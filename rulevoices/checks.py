"""The checks of arguments: each returns nothing, or raises the error for an invalid value."""

from rulevoices.errors import BadNumber, BadPromise, BadPromises, BadRow, BadTable, BadWay, NotText
from rulevoices.rows import SMALL_ROWS
from rulevoices.words import PROMISES, VOICES, WAYS

MOST_VOICES = 12
GREATEST_LENGTH = 60


def check_way(way):
    """Raise BadWay unless the value is the name of a told way."""
    if way not in WAYS:
        raise BadWay("not the name of a way")


def check_promise(promise):
    """Raise BadPromise unless the value is the name of a promise."""
    if promise not in PROMISES:
        raise BadPromise("not the name of a promise")


def check_promises(wanted):
    """Raise BadPromises unless the value is an ascending tuple of different promises."""
    if not isinstance(wanted, tuple):
        raise BadPromises("not a tuple of promises")
    if wanted != tuple(promise for promise in PROMISES if promise in wanted):
        raise BadPromises("not an ascending tuple of different promises")


def check_row(row):
    """Raise BadRow unless the value is a tuple of 1 to 12 voices."""
    if not isinstance(row, tuple) or not 1 <= len(row) <= MOST_VOICES:
        raise BadRow(None)
    wrong = _first_wrong(row)
    if wrong is not None:
        raise BadRow(wrong)


def check_table(table):
    """Raise BadTable unless the value is a tuple of 14 voices."""
    if not isinstance(table, tuple) or len(table) != len(SMALL_ROWS):
        raise BadTable(None)
    wrong = _first_wrong(table)
    if wrong is not None:
        raise BadTable(wrong)


def check_length(length):
    """Raise BadNumber unless the value is an integer from 1 to 60."""
    # To Python True and False are integers, too.
    if not isinstance(length, int) or isinstance(length, bool):
        raise BadNumber("not an integer")
    if not 1 <= length <= GREATEST_LENGTH:
        raise BadNumber("not a number from 1 to 60")


def check_text(text):
    """Raise NotText unless the value is a string."""
    if not isinstance(text, str):
        raise NotText("not a string")


def _first_wrong(items):
    """Return the index of the first item that is no voice, None if all are voices."""
    for index, item in enumerate(items):
        if item not in VOICES:
            return index
    return None
