"""Point 1 and the interface, over all modules."""

import ast
import copy
import doctest
import importlib
import inspect
import pathlib
import unittest

from asserts import assert_index, assert_raises
from rulevoices.counts import count_allowed, power
from rulevoices.desks import Desk
from rulevoices.errors import (
    BadNumber, BadPromise, BadPromises, BadRow, BadTable, BadWay, InvalidText, NotParts, NotText,
    VoiceError,
)
from rulevoices.maps import (
    can_add, can_hold, clashes, count_tables, greatest_sets, keepers, least_clashes,
)
from rulevoices.parts import is_parts, parts_answer, parts_ways
from rulevoices.promises import holds, keeps, promises
from rulevoices.texts import read_row, read_table, write_row, write_table
from rulevoices.ways import answer, matters, table_of, ways

TOP = pathlib.Path(__file__).resolve().parent.parent

# The interface: for each module its functions and their arguments.
FUNCTIONS = {
    "ways": {
        "ways": (), "answer": ("way", "row"), "matters": ("way", "row"), "table_of": ("way",),
    },
    "promises": {"promises": (), "keeps": ("table", "promise"), "holds": ("way", "promise")},
    "maps": {
        "can_hold": ("wanted",), "keepers": ("wanted",), "can_add": ("wanted",),
        "least_clashes": (), "clashes": ("wanted",), "greatest_sets": (),
        "count_tables": ("wanted",),
    },
    "parts": {"is_parts": ("small",), "parts_ways": (), "parts_answer": ("small", "row")},
    "counts": {"count_allowed": ("way", "length"), "power": ("way", "length")},
    "texts": {
        "write_row": ("row",), "read_row": ("text",), "write_table": ("table",),
        "read_table": ("text",),
    },
}

METHODS = {"__init__": ("self", "way"), "run": ("self", "line"), "undo": ("self",)}

ROW = ("allow", "deny", "allow")
TABLE = ("allow", "deny") * 7
SMALL = ("allow", "deny", "allow", "deny", "deny", "allow")

# For each call its valid arguments, and the error for another value in the place of each.
CALLS = (
    (answer, ("first", ROW), (BadWay, BadRow)),
    (matters, ("odd", ROW), (BadWay, BadRow)),
    (table_of, ("odd",), (BadWay,)),
    (keeps, (TABLE, "parts"), (BadTable, BadPromise)),
    (holds, ("first", "parts"), (BadWay, BadPromise)),
    (can_hold, (("most", "order"),), (BadPromises,)),
    (keepers, (("most", "order"),), (BadPromises,)),
    (can_add, (("most", "order"),), (BadPromises,)),
    (clashes, (("most", "parts"),), (BadPromises,)),
    (count_tables, (("most", "order"),), (BadPromises,)),
    (parts_answer, (SMALL, ROW), (NotParts, BadRow)),
    (count_allowed, ("island", 5), (BadWay, BadNumber)),
    (power, ("island", 5), (BadWay, BadNumber)),
    (write_row, (ROW,), (BadRow,)),
    (write_table, (TABLE,), (BadTable,)),
    (read_row, ("+-",), (NotText,)),
    (read_table, ("+-" * 7,), (NotText,)),
    (Desk, ("first",), (BadWay,)),
    (Desk("first").run, ("allow",), (NotText,)),
)

# Values that no argument may be, of all kinds that there are.
WRONG = (
    None, True, False, 0, -1, 61, 2 ** 80, (None,), ("",), (0, True), (("allow",),), [], ["allow"],
    ["allow", "deny"], [["first"]], ["+"], {}, {"allow": "deny"}, {0: [()]}, {"first": ["odd"]},
    ([],), ({"allow": 1},),
)

# Strings that no argument may be: those for which a string is asked are no texts and no lines.
WRONG_STRINGS = ("", "Allow", "fair", "+0", "[]", "allow\n")


def nested(depth):
    """Return a tuple, a list and a dict that contain one another to a depth."""
    value = ("allow",)
    for _ in range(depth):
        value = ("deny", [{"allow": value}])
    return value, [value], {"allow": value}


class ArgumentsTest(unittest.TestCase):
    def test_valid_arguments_stay_as_they_are(self):
        for call, arguments, _ in CALLS:
            before = copy.deepcopy(arguments)
            call(*arguments)
            self.assertEqual(arguments, before, call)

    def test_any_value_in_each_place(self):
        for call, arguments, errors in CALLS:
            for place, error in enumerate(errors):
                for value in WRONG + nested(50):
                    told = arguments[:place] + (value,) + arguments[place + 1:]
                    assert_raises(self, error, call, *told)

    def test_any_string_in_each_place(self):
        for call, arguments, errors in CALLS:
            for place, error in enumerate(errors):
                for value in WRONG_STRINGS:
                    told = arguments[:place] + (value,) + arguments[place + 1:]
                    assert_raises(self, InvalidText if error is NotText else error, call, *told)

    def test_the_first_invalid_argument(self):
        for call, arguments, errors in CALLS:
            if len(arguments) < 2:
                continue
            for one in WRONG:
                for other in WRONG:
                    assert_raises(self, errors[0], call, one, other)

    def test_is_parts_takes_any_value(self):
        for value in WRONG + WRONG_STRINGS + nested(50):
            self.assertIs(is_parts(value), False)

    def test_the_index_behind_a_valid_argument(self):
        assert_index(self, BadRow, 2, answer, "first", ("allow", "deny", 0))
        assert_index(self, BadRow, 0, matters, "first", (True, False))
        assert_index(self, BadRow, 1, parts_answer, SMALL, ("allow", None, None))
        assert_index(self, BadTable, 13, keeps, TABLE[:13] + ("",), "parts")

    def test_true_and_false_are_no_integers(self):
        for value in (True, False):
            assert_raises(self, BadNumber, count_allowed, "first", value)
            assert_raises(self, BadNumber, power, "first", value)

    def test_each_call_says_the_same_again(self):
        for call, arguments, _ in CALLS:
            if call in (Desk, CALLS[-1][0]):
                continue
            self.assertEqual(call(*arguments), call(*arguments))
        for call in (ways, promises, least_clashes, greatest_sets, parts_ways):
            self.assertEqual(call(), call())

    def test_errors_are_value_errors(self):
        for _, _, errors in CALLS:
            for error in errors:
                self.assertEqual(error.__bases__, (VoiceError,))
                self.assertTrue(issubclass(error, ValueError))


class InterfaceTest(unittest.TestCase):
    def test_functions(self):
        for name, functions in FUNCTIONS.items():
            module = importlib.import_module("rulevoices." + name)
            for function, arguments in functions.items():
                found = getattr(module, function)
                self.assertTrue(inspect.isfunction(found), function)
                self.assertEqual(found.__module__, module.__name__, function)
                self.assertEqual(tuple(inspect.signature(found).parameters), arguments, function)

    def test_desk(self):
        for name, arguments in METHODS.items():
            self.assertEqual(tuple(inspect.signature(vars(Desk)[name]).parameters), arguments)
        for name in ("row", "answer"):
            self.assertIsInstance(vars(Desk)[name], property)


class ProgramTest(unittest.TestCase):
    def files(self):
        found = sorted((TOP / "rulevoices").glob("*.py"))
        self.assertGreaterEqual(len(found), 12)
        return found

    def test_no_clock_no_random_numbers_no_files(self):
        allowed = ("itertools", "math", "rulevoices")
        barred = ("open", "input", "print", "eval", "exec", "__import__")
        for file in self.files():
            for node in ast.walk(ast.parse(file.read_text())):
                self.assertNotIsInstance(node, ast.Import, file.name)
                if isinstance(node, ast.ImportFrom):
                    self.assertIn(node.module.split(".")[0], allowed, file.name)
                if isinstance(node, ast.Name):
                    self.assertNotIn(node.id, barred, file.name)

    def test_examples_of_the_readme(self):
        text = (TOP / "README.md").read_text().replace("```", "")
        examples = doctest.DocTestParser().get_doctest(text, {}, "README.md", "README.md", 0)
        self.assertGreater(len(examples.examples), 10)
        result = doctest.DocTestRunner().run(examples)
        self.assertEqual(result.failed, 0)


if __name__ == "__main__":
    unittest.main()
