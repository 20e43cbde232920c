"""Rows of voices and what can be done to them; nothing here checks its arguments."""

from rulevoices.words import ALLOW, DENY, VOICES

# The rows that a table tells the answers to, in the order of its items.
SMALL_ROWS = (
    ("allow",),
    ("deny",),
    ("allow", "allow"),
    ("allow", "deny"),
    ("deny", "allow"),
    ("deny", "deny"),
    ("allow", "allow", "allow"),
    ("allow", "allow", "deny"),
    ("allow", "deny", "allow"),
    ("allow", "deny", "deny"),
    ("deny", "allow", "allow"),
    ("deny", "allow", "deny"),
    ("deny", "deny", "allow"),
    ("deny", "deny", "deny"),
)


def turned(voice):
    """Return the other voice."""
    return DENY if voice == ALLOW else ALLOW


def turned_row(row):
    """Return the row with all voices turned."""
    return tuple(turned(voice) for voice in row)


def turned_at(row, place):
    """Return the row with the one voice at a place turned."""
    return row[:place] + (turned(row[place]),) + row[place + 1:]


def greater_voice(row):
    """Return the voice of which the row has more, None if it has as many of both."""
    allows = row.count(ALLOW)
    denies = row.count(DENY)
    if allows == denies:
        return None
    return ALLOW if allows > denies else DENY


def stretches(row):
    """Return the row, each stretch of neighbouring voices that are the same taken as one."""
    return tuple(
        row[place] for place in range(len(row)) if place == 0 or row[place] != row[place - 1]
    )


def with_more(rows, many):
    """Return a list of the rows, each continued by as many more voices in every possible way."""
    found = list(rows)
    for _ in range(many):
        found = [row + (voice,) for row in found for voice in VOICES]
    return found
