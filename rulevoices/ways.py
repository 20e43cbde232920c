"""The thirteen told ways: their answers to rows, and where a voice matters."""

from rulevoices.checks import check_row, check_way
from rulevoices.rows import SMALL_ROWS, greater_voice, stretches, turned_at
from rulevoices.words import ALLOW, DENY, WAYS


def _first(row):
    return row[0]


def _last(row):
    return row[-1]


def _always_allow(row):
    return ALLOW


def _always_deny(row):
    return DENY


def _allow_over(row):
    return ALLOW if ALLOW in row else DENY


def _deny_over(row):
    return DENY if DENY in row else ALLOW


def _most_or_allow(row):
    return _most_or(row, ALLOW)


def _most_or_deny(row):
    return _most_or(row, DENY)


def _most_or_first(row):
    return _most_or(row, row[0])


def _most_or_last(row):
    return _most_or(row, row[-1])


def _most_or(row, otherwise):
    voice = greater_voice(row)
    return otherwise if voice is None else voice


def _odd(row):
    return DENY if row.count(DENY) % 2 == 1 else ALLOW


def _both_ends(row):
    return ALLOW if row[0] == ALLOW and row[-1] == ALLOW else DENY


def _island(row):
    return ALLOW if stretches(row) in ((ALLOW,), (DENY, ALLOW, DENY)) else DENY


_ANSWERS = {
    "allow over": _allow_over,
    "always allow": _always_allow,
    "always deny": _always_deny,
    "both ends": _both_ends,
    "deny over": _deny_over,
    "first": _first,
    "island": _island,
    "last": _last,
    "most or allow": _most_or_allow,
    "most or deny": _most_or_deny,
    "most or first": _most_or_first,
    "most or last": _most_or_last,
    "odd": _odd,
}


def ways():
    """Return the ascending tuple of the names of the told ways."""
    return WAYS


def told_answer(way, row):
    """Return the answer of a told way to a row; nothing is checked here."""
    told = _ANSWERS[way]
    return told(row)


def answer(way, row):
    """Return the answer of a told way to a row."""
    check_way(way)
    check_row(row)
    return told_answer(way, row)


def matters(way, row):
    """Return the ascending tuple of the places at which turning the voice turns the answer."""
    now = answer(way, row)
    return tuple(
        place for place in range(len(row)) if told_answer(way, turned_at(row, place)) != now
    )


def table_of(way):
    """Return the tuple of the answers of a told way to the rows of at most three voices."""
    check_way(way)
    return tuple(told_answer(way, row) for row in SMALL_ROWS)
