"""The names of voices, told ways and promises; each tuple is ascending."""

ALLOW = "allow"
DENY = "deny"
VOICES = ("allow", "deny")

WAYS = (
    "allow over",
    "always allow",
    "always deny",
    "both ends",
    "deny over",
    "first",
    "island",
    "last",
    "most or allow",
    "most or deny",
    "most or first",
    "most or last",
    "odd",
)

PROMISES = (
    "agreed",
    "even",
    "growing",
    "heard",
    "kept",
    "mixed",
    "most",
    "order",
    "parts",
    "repeat",
)
