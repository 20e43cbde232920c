"""What the document says, written a second time: over strings of + and -, and by trying all rows.

Nothing here uses the package, so that the tests compare two programs that share no code.
"""

import functools
import itertools
import re

PROMISES = (
    "agreed", "even", "growing", "heard", "kept", "mixed", "most", "order", "parts", "repeat",
)

TURNED = {"+": "-", "-": "+"}
VOICE = {"+": "allow", "-": "deny"}


def most(row, otherwise):
    """Return the sign of which there are more, or what is to be said otherwise."""
    difference = row.count("+") - row.count("-")
    return "+" if difference > 0 else "-" if difference < 0 else otherwise


def sign(allowed):
    return "+" if allowed else "-"


WAYS = {
    "allow over": lambda row: sign("+" in row),
    "always allow": lambda row: "+",
    "always deny": lambda row: "-",
    "both ends": lambda row: sign(row.startswith("+") and row.endswith("+")),
    "deny over": lambda row: sign("-" not in row),
    "first": lambda row: row[0],
    "island": lambda row: sign(re.fullmatch(r"\++|-+\++-+", row)),
    "last": lambda row: row[-1],
    "most or allow": lambda row: most(row, "+"),
    "most or deny": lambda row: most(row, "-"),
    "most or first": lambda row: most(row, row[0]),
    "most or last": lambda row: most(row, row[-1]),
    "odd": lambda row: sign(row.count("-") in range(0, 99, 2)),
}


def voices(signs):
    """Return the tuple of voices that signs stand for."""
    return tuple(VOICE[one] for one in signs)


def rows_of(length):
    return ["".join(signs) for signs in itertools.product("+-", repeat=length)]


def rows_up_to(longest):
    return [row for length in range(1, longest + 1) for row in rows_of(length)]


def turned_at(row, place):
    return row[:place] + TURNED[row[place]] + row[place + 1:]


def agreed(told, longest):
    return all(told["+" * n] == "+" and told["-" * n] == "-" for n in range(1, longest + 1))


def even(told, longest):
    return all(told["".join(TURNED[s] for s in row)] == TURNED[told[row]] for row in told)


def growing(told, longest):
    return not any(
        row[k] == "-" and told[row] == "+" and told[turned_at(row, k)] == "-"
        for row in told for k in range(len(row))
    )


def heard(told, longest):
    return all(
        any(told[row] != told[turned_at(row, k)] for row in rows_of(length))
        for length in range(1, longest + 1) for k in range(length)
    )


def kept(told, longest):
    return all(
        told[row[:k] + told[row] + row[k:]] == told[row]
        for row in told if len(row) < longest for k in range(len(row) + 1)
    )


def mixed(told, longest):
    return {told[row] for row in told if len(set(row)) == 2} == {"+", "-"}


def most_kept(told, longest):
    return all(told[row] == most(row, told[row]) for row in told)


def order(told, longest):
    return all(
        told[row] == told[row[:k] + row[k + 1] + row[k] + row[k + 2:]]
        for row in told for k in range(len(row) - 1)
    )


def parts(told, longest):
    return all(
        told[row] == told[told[row[:k]] + told[row[k:]]]
        for row in told for k in range(1, len(row))
    )


def repeat(told, longest):
    return all(
        told[row] == told[row[:k] + row[k + 1:]]
        for row in told for k in range(len(row) - 1) if row[k] == row[k + 1]
    )


CHECKS = dict(zip(
    PROMISES,
    (agreed, even, growing, heard, kept, mixed, most_kept, order, parts, repeat),
))


def kept_by(told, longest):
    """Return the promises that answers to all rows up to a length keep among themselves."""
    return tuple(promise for promise in PROMISES if CHECKS[promise](told, longest))


def all_tables():
    """Return a dict: for each table, written in signs, the promises that it keeps."""
    rows = rows_up_to(3)
    return {
        "".join(signs): kept_by(dict(zip(rows, signs)), 3)
        for signs in itertools.product("+-", repeat=14)
    }


def by_parts(small, row, cut=1):
    """Return what six answers, in signs, say of a row that is parted behind its first voices."""
    told = dict(zip(rows_up_to(2), small))
    if len(row) == 1:
        return told[row]
    return told[by_parts(small, row[:cut]) + by_parts(small, row[cut:])]


def goes_by_parts(small, longest):
    """Return whether six answers say the same of each row up to a length, wherever parted."""
    told = {row: by_parts(small, row) for row in rows_up_to(longest)}
    return all(told[row] == voice for row, voice in zip(told, small)) and parts(told, longest)


# Each way as a machine that hears a row voice by voice: its state behind the first voice, the
# next state, and the answer in a state. A balance is the number of + less that of -.
MACHINES = {
    "allow over": (lambda s: s, lambda state, s: "+" if s == "+" else state, lambda state: state),
    "always allow": (lambda s: "+", lambda state, s: state, lambda state: state),
    "always deny": (lambda s: "-", lambda state, s: state, lambda state: state),
    "both ends": (lambda s: s + s, lambda state, s: state[0] + s, lambda state: sign(state == "++")),
    "deny over": (lambda s: s, lambda state, s: "-" if s == "-" else state, lambda state: state),
    "first": (lambda s: s, lambda state, s: state, lambda state: state),
    "island": (
        lambda s: s, lambda state, s: state if state[-1] == s else (state + s)[:4],
        lambda state: sign(state in ("+", "-+-")),
    ),
    "last": (lambda s: s, lambda state, s: s, lambda state: state),
    "most or allow": (
        lambda s: int(s + "1"), lambda state, s: state + int(s + "1"),
        lambda state: sign(state >= 0),
    ),
    "most or deny": (
        lambda s: int(s + "1"), lambda state, s: state + int(s + "1"),
        lambda state: sign(state > 0),
    ),
    "most or first": (
        lambda s: (int(s + "1"), s), lambda state, s: (state[0] + int(s + "1"), state[1]),
        lambda state: sign(state[0] > 0 or state == (0, "+")),
    ),
    "most or last": (
        lambda s: (int(s + "1"), s), lambda state, s: (state[0] + int(s + "1"), s),
        lambda state: sign(state[0] > 0 or state == (0, "+")),
    ),
    "odd": (lambda s: s, lambda state, s: "+" if state == s else "-", lambda state: state),
}


def counts_by_machine(way, longest):
    """Return two dicts: for each length the number of rows allowed, and the powers of all places.

    For a place, the states behind the rows before it are counted, and for both states that can
    follow, in how many of the continuations their answers differ.
    """
    start, step, said = MACHINES[way]
    reached = {1: {}}
    for one in "+-":
        reached[1][start(one)] = reached[1].get(start(one), 0) + 1
    for length in range(2, longest + 1):
        reached[length] = {}
        for state, many in reached[length - 1].items():
            for one in "+-":
                new = step(state, one)
                reached[length][new] = reached[length].get(new, 0) + many

    @functools.cache
    def parted(left, right, more):
        if more == 0:
            return int(said(left) != said(right))
        return sum(parted(step(left, one), step(right, one), more - 1) for one in "+-")

    def matters_in(length, place):
        more = length - place - 1
        if place == 0:
            return 2 * parted(start("+"), start("-"), more)
        return 2 * sum(
            many * parted(step(state, "+"), step(state, "-"), more)
            for state, many in reached[place].items()
        )

    lengths = range(1, longest + 1)
    allowed = {
        length: sum(many for state, many in reached[length].items() if said(state) == "+")
        for length in lengths
    }
    powers = {
        length: tuple(matters_in(length, place) for place in range(length)) for length in lengths
    }
    return allowed, powers


def all_sets():
    """Return the 1,024 ascending tuples of promises, the smaller ones first."""
    return [
        group for size in range(11) for group in itertools.combinations(PROMISES, size)
    ]
