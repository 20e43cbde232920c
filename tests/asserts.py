"""Values of wrong kinds, and assertions about errors and the interface."""

import copy

NO_NAMES = (
    None, True, False, 0, 1, -1, 2 ** 70, "", "allow", "deny", "First", "first ", " odd", "oddly",
    "fair", "agree", "always", "most", "most or none", (), ("first",), ("odd", "parts"), [],
    ["first"], ["odd"], {}, {"first": 1}, ({"odd": []},),
)

NO_TUPLES = (
    None, True, False, 0, 1, 12, 14, "", "allow", "agreed", "+", "+" * 14, [], ["allow"],
    ["allow"] * 14, ["agreed"], ["agreed", "parts"], {}, {"allow": "deny"}, {"agreed": 1},
    {0: "allow"},
)

NO_VOICES = (
    None, True, False, 0, 1, "", "+", "-", "Allow", "DENY", "allow ", "denied", "first", (),
    ("allow",), ["deny"], {"allow": "deny"}, (("allow",),), [[]],
)


def assert_raises(case, error, call, *arguments):
    """Check that a call raises just this error and leaves its arguments as they are."""
    before = copy.deepcopy(arguments)
    with case.assertRaises(error) as caught:
        call(*arguments)
    case.assertIs(type(caught.exception), error)
    case.assertEqual(arguments, before)
    return caught.exception


def assert_index(case, error, index, call, *arguments):
    """Check the error and its index; a boolean is no index."""
    caught = assert_raises(case, error, call, *arguments)
    case.assertEqual(caught.index, index)
    case.assertIs(type(caught.index), type(index))


def assert_defined_in(case, module, names):
    """Check that each name is a function or class that the module itself defines."""
    for name in names:
        case.assertEqual(getattr(module, name).__module__, module.__name__, name)
