"""What any way can keep: the sets of promises that some way keeps, and those that clash.

A set that no told way keeps is kept by no way at all: no table keeps it (see the tests). So
whatever is asked of all ways is decided by the told ones.
"""

from itertools import combinations

from rulevoices.checks import check_promises
from rulevoices.promises import holds, keeps_all
from rulevoices.rows import with_more
from rulevoices.words import PROMISES, WAYS


def can_hold(wanted):
    """Return whether some way, of whatever kind, keeps all wanted promises."""
    check_promises(wanted)
    return len(_keepers(wanted)) > 0


def keepers(wanted):
    """Return the ascending tuple of the told ways that keep all wanted promises."""
    check_promises(wanted)
    return _keepers(wanted)


def can_add(wanted):
    """Return the ascending tuple of the further promises that can be kept with the wanted ones."""
    check_promises(wanted)
    return tuple(
        promise
        for promise in PROMISES
        if promise not in wanted and len(_keepers(wanted + (promise,))) > 0
    )


def least_clashes():
    """Return the tuple of the least clashes, the smaller ones first."""
    return _least_clashes_in(PROMISES)


def clashes(wanted):
    """Return the tuple of the least clashes that lie in wanted promises, the smaller ones first."""
    check_promises(wanted)
    return _least_clashes_in(wanted)


def greatest_sets():
    """Return the ascending tuple of the sets of promises to which none can be added."""
    kept = [tuple(promise for promise in PROMISES if holds(way, promise)) for way in WAYS]
    # Some of the told ways keep the same promises.
    return tuple(sorted({group for group in kept if len(can_add(group)) == 0}))


def count_tables(wanted):
    """Return the number of tables that keep all wanted promises."""
    check_promises(wanted)
    tables = [()]
    # There are two, four and eight rows of one, two and three voices. What breaks a promise by
    # its answers to short rows need not be continued, so few tables are built in full.
    for more in (2, 4, 8):
        tables = [table for table in with_more(tables, more) if keeps_all(table, wanted)]
    return len(tables)


def _keepers(wanted):
    """Return the told ways that keep all promises of a tuple in any order."""
    return tuple(way for way in WAYS if _holds_all(way, wanted))


def _holds_all(way, wanted):
    return all(holds(way, promise) for promise in wanted)


def _least_clashes_in(wanted):
    """Return the least clashes among ascending promises, the smaller ones first."""
    names = list(wanted)
    found = []
    for size in range(1, len(names) + 1):
        for group in combinations(names, size):
            if len(_keepers(group)) == 0 and not _has_part(group, found):
                found.append(group)
    return tuple(found)


def _has_part(group, found):
    """Return whether one of the found tuples lies in the group."""
    return any(_lies_in(part, group) for part in found)


def _lies_in(part, group):
    return all(promise in group for promise in part)
