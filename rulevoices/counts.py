"""How many rows of a length a way allows, and in how many of them each place matters.

There are too many rows to go through them, so each way has its rule for either number. A place
matters in a row exactly if it matters in the row turned there; so the rules for places take
twice the number of what all other voices may be.
"""

from math import comb

from rulevoices.checks import check_length, check_way


def _no_rows(length):
    return 0


def _one_row(length):
    return 1


def _all_rows(length):
    return 1 << length


def _all_rows_but_one(length):
    return _all_rows(length) - 1


def _half_of_the_rows(length):
    return 1 << (length - 1)


def _both_ends(length):
    return 1 if length == 1 else 1 << (length - 2)


def _island(length):
    # One row is all allow; the others are cut at two of the places between neighbours.
    return 1 + comb(length - 1, 2)


def _most_or_allow(length):
    return _rows_with(length, _half(length))


def _most_or_deny(length):
    return _rows_with(length, _more_than_half(length))


def _half(length):
    """Return the least number of allow of which there are not fewer than of deny."""
    return (length + 1) // 2


def _more_than_half(length):
    """Return the least number of allow of which there are more than of deny."""
    return length // 2 + 1


def _rows_with(length, least):
    """Return the number of rows with a least number of allow or more."""
    return sum(comb(length, allows) for allows in range(least, length + 1))


# Turning all voices turns the answers of "most or first" and "most or last", and turning one
# voice those of "first", "last" and "odd": half of the rows are allowed.
_ALLOWED = {
    "allow over": _all_rows_but_one,
    "always allow": _all_rows,
    "always deny": _no_rows,
    "both ends": _both_ends,
    "deny over": _one_row,
    "first": _half_of_the_rows,
    "island": _island,
    "last": _half_of_the_rows,
    "most or allow": _most_or_allow,
    "most or deny": _most_or_deny,
    "most or first": _half_of_the_rows,
    "most or last": _half_of_the_rows,
    "odd": _half_of_the_rows,
}


def _place_never(length, place):
    return 0


def _place_always(length, place):
    return _all_rows(length)


def _place_first(length, place):
    return _all_rows(length) if place == 0 else 0


def _place_last(length, place):
    return _all_rows(length) if place == length - 1 else 0


def _place_unless_overruled(length, place):
    # No other voice may be the one that is over the other.
    return 2


def _place_both_ends(length, place):
    if place not in (0, length - 1):
        return 0
    # The other end must allow; a row of one voice has no other.
    return 2 if length == 1 else 1 << (length - 1)


def _place_island(length, place):
    # The place does not matter in a pair of allowed rows that differ there alone. In these it
    # makes the island longer by one; the far end may be at any other inner place.
    pairs = length - 3 if 0 < place < length - 1 else 0
    return 2 * (_island(length) - 2 * pairs)


def _place_most_or_allow(length, place):
    return _rows_in_doubt(length, _half(length))


def _place_most_or_deny(length, place):
    return _rows_in_doubt(length, _more_than_half(length))


def _place_most_or_first(length, place):
    half = _half(length)
    if length % 2 == 1:
        return _rows_in_doubt(length, half)
    # One of the row and the row turned at the place has as many of both. In it the place says
    # what the first voice says, and the length - 2 others say the opposite half of length times.
    if place == 0:
        return 2 * comb(length, half)
    return 4 * comb(length - 2, half)


def _place_most_or_last(length, place):
    return _place_most_or_first(length, length - 1 - place)


def _rows_in_doubt(length, least):
    """Return the number of rows in which one voice decides whether a least number allows."""
    return 2 * comb(length - 1, least - 1)


_MATTERS = {
    "allow over": _place_unless_overruled,
    "always allow": _place_never,
    "always deny": _place_never,
    "both ends": _place_both_ends,
    "deny over": _place_unless_overruled,
    "first": _place_first,
    "island": _place_island,
    "last": _place_last,
    "most or allow": _place_most_or_allow,
    "most or deny": _place_most_or_deny,
    "most or first": _place_most_or_first,
    "most or last": _place_most_or_last,
    "odd": _place_always,
}


def count_allowed(way, length):
    """Return the number of rows of a length that a told way allows."""
    check_way(way)
    check_length(length)
    count = _ALLOWED[way]
    return count(length)


def power(way, length):
    """Return the tuple that tells for each place in how many rows of a length it matters."""
    check_way(way)
    check_length(length)
    count = _MATTERS[way]
    return tuple(count(length, place) for place in range(length))
