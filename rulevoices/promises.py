"""The ten promises: what tables keep by what they tell alone, and what the told ways keep.

Each check below takes a dict of answers, told by row: those to all rows of up to one, two or
three voices. It returns False exactly if these answers break the promise, whatever the answers
to longer rows may be.
"""

from rulevoices.checks import check_promise, check_table, check_way
from rulevoices.rows import SMALL_ROWS, greater_voice, turned, turned_at, turned_row
from rulevoices.words import ALLOW, DENY, PROMISES

# What each told way keeps for rows of every length; its table keeps just the same by itself.
_KEPT_BY = {
    "allow over": ("agreed", "growing", "heard", "kept", "order", "parts", "repeat"),
    "always allow": ("growing", "kept", "order", "parts", "repeat"),
    "always deny": ("growing", "kept", "order", "parts", "repeat"),
    "both ends": ("agreed", "growing", "kept", "mixed", "repeat"),
    "deny over": ("agreed", "growing", "heard", "kept", "order", "parts", "repeat"),
    "first": ("agreed", "even", "growing", "kept", "mixed", "parts", "repeat"),
    "island": ("agreed", "heard", "mixed", "repeat"),
    "last": ("agreed", "even", "growing", "kept", "mixed", "parts", "repeat"),
    "most or allow": ("agreed", "growing", "heard", "kept", "mixed", "most", "order"),
    "most or deny": ("agreed", "growing", "heard", "kept", "mixed", "most", "order"),
    "most or first": ("agreed", "even", "growing", "kept", "mixed", "most"),
    "most or last": ("agreed", "even", "growing", "kept", "mixed", "most"),
    "odd": ("heard", "mixed", "order", "parts"),
}


def _agreed(told):
    return all(told[row] == row[0] for row in told if row.count(row[0]) == len(row))


def _even(told):
    return all(told[turned_row(row)] == turned(told[row]) for row in told)


def _growing(told):
    for row in told:
        for place, voice in enumerate(row):
            if voice == DENY and told[row] == ALLOW and told[turned_at(row, place)] == DENY:
                return False
    return True


def _heard(told):
    places = {(len(row), place) for row in told for place in range(len(row))}
    turning = {
        (len(row), place)
        for row in told
        for place in range(len(row))
        if told[row] != told[turned_at(row, place)]
    }
    return places == turning


def _kept(told):
    for row in told:
        for place in range(len(row) + 1):
            longer = row[:place] + (told[row],) + row[place:]
            if longer in told and told[longer] != told[row]:
                return False
    return True


def _mixed(told):
    # One row is enough, and it may be among those that are not told yet.
    if len(told) < len(SMALL_ROWS):
        return True
    answers = [told[row] for row in told if ALLOW in row and DENY in row]
    return ALLOW in answers and DENY in answers


def _most(told):
    return all(greater_voice(row) in (None, told[row]) for row in told)


def _order(told):
    for row in told:
        for place in range(len(row) - 1):
            exchanged = row[:place] + (row[place + 1], row[place]) + row[place + 2:]
            if told[exchanged] != told[row]:
                return False
    return True


def _parts(told):
    for row in told:
        for cut in range(1, len(row)):
            if told[row] != told[(told[row[:cut]], told[row[cut:]])]:
                return False
    return True


def _repeat(told):
    for row in told:
        for place in range(1, len(row)):
            once = row[:place] + row[place + 1:]
            if row[place] == row[place - 1] and told[row] != told[once]:
                return False
    return True


_CHECKS = {
    "agreed": _agreed,
    "even": _even,
    "growing": _growing,
    "heard": _heard,
    "kept": _kept,
    "mixed": _mixed,
    "most": _most,
    "order": _order,
    "parts": _parts,
    "repeat": _repeat,
}


def promises():
    """Return the ascending tuple of the names of the promises."""
    return PROMISES


def keeps_all(table, wanted):
    """Return whether a table breaks none of the promises; nothing is checked here.

    The table may be cut short behind the rows of one or of two voices.
    """
    told = {row: voice for row, voice in zip(SMALL_ROWS, table)}
    for promise in wanted:
        check = _CHECKS[promise]
        if not check(told):
            return False
    return True


def keeps(table, promise):
    """Return whether a table keeps a promise by what it tells alone."""
    check_table(table)
    check_promise(promise)
    return keeps_all(table, (promise,))


def holds(way, promise):
    """Return whether a told way keeps a promise."""
    check_way(way)
    check_promise(promise)
    return promise in _KEPT_BY[way]
