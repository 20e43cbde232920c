"""Point 12: the texts of rows and tables."""

import unittest

import oracle
from asserts import NO_TUPLES, NO_VOICES, assert_defined_in, assert_index, assert_raises
from rulevoices import texts as module
from rulevoices.errors import BadRow, BadTable, InvalidText, NotText
from rulevoices.texts import read_row, read_table, write_row, write_table
from rulevoices.ways import table_of, ways

NO_STRINGS = (
    None, True, False, 0, 1, -1, 12, (), ("+",), ("allow",), ("allow", "deny"), ("+",) * 14, [],
    ["+"], ["+", "-"], {}, {"+": "-"}, b"+", b"+" * 14,
)

# Signs that are not + and not -; some look like them.
NO_SIGNS = (
    " ", "0", "1", "a", "allow", "deny", ",", "\n", "\t", "\x00", "_", "=", "~", "\u2212",
    "\u2013", "\uff0b", "\uff0d", "\u207a", "\u00b1", "\U0001f600",
)


class RowsTest(unittest.TestCase):
    def test_both_ways_up_to_twelve(self):
        for signs in oracle.rows_up_to(12):
            row = oracle.voices(signs)
            self.assertEqual(write_row(row), signs)
            self.assertEqual(read_row(signs), row)

    def test_by_hand(self):
        self.assertEqual(write_row(("deny",)), "-")
        self.assertEqual(write_row(("deny", "allow", "allow")), "-++")
        self.assertEqual(read_row("+"), ("allow",))
        self.assertEqual(read_row("-" * 12), ("deny",) * 12)
        self.assertEqual(read_row("+--"), ("allow", "deny", "deny"))
        self.assertIs(type(read_row("+")), tuple)
        self.assertIs(type(write_row(("allow",))), str)

    def test_no_row(self):
        for value in NO_TUPLES + ((), ("allow",) * 13, ("allow",) * 14, (None,) * 13):
            assert_index(self, BadRow, None, write_row, value)
        for value in NO_VOICES:
            assert_index(self, BadRow, 0, write_row, (value,))
            assert_index(self, BadRow, 1, write_row, ("deny", value, value))
            assert_index(self, BadRow, 11, write_row, ("allow",) * 11 + (value,))

    def test_no_string(self):
        for value in NO_STRINGS:
            assert_raises(self, NotText, read_row, value)

    def test_no_text_of_a_row(self):
        for text in ("", "+" * 13, "-" * 13, "+-" * 7, "+" * 1000, " " * 13):
            assert_raises(self, InvalidText, read_row, text)
        for other in NO_SIGNS:
            for text in (other, "+" + other, other + "-", "+-" + other + "+", "+" * 11 + other):
                assert_raises(self, InvalidText, read_row, text)


class TablesTest(unittest.TestCase):
    def test_both_ways(self):
        for signs in oracle.all_tables():
            table = oracle.voices(signs)
            self.assertEqual(write_table(table), signs)
            self.assertEqual(read_table(signs), table)

    def test_told_ways(self):
        self.assertEqual(write_table(table_of("first")), "+-++--++++----")
        self.assertEqual(write_table(table_of("odd")), "+-+--++--+-++-")
        self.assertEqual(read_table("+-+---+-------"), table_of("deny over"))
        for way in ways():
            self.assertEqual(read_table(write_table(table_of(way))), table_of(way))
        self.assertIs(type(read_table("-" * 14)), tuple)

    def test_no_table(self):
        wrong = ((), ("allow",), ("allow",) * 13, ("allow",) * 15, (1,) * 13)
        for value in NO_TUPLES + wrong:
            assert_index(self, BadTable, None, write_table, value)
        for value in NO_VOICES:
            for index in range(14):
                table = ("deny",) * index + (value,) + ("allow",) * (13 - index)
                assert_index(self, BadTable, index, write_table, table)
            assert_index(self, BadTable, 3, write_table, ("deny",) * 3 + (value,) * 11)

    def test_no_string(self):
        for value in NO_STRINGS:
            assert_raises(self, NotText, read_table, value)

    def test_no_text_of_a_table(self):
        for text in ("", "+", "+" * 12, "+" * 13, "-" * 13, "+" * 15, "-" * 15, "+" * 28):
            assert_raises(self, InvalidText, read_table, text)
        for other in NO_SIGNS:
            for text in (
                other * 14, other + "+" * 13, "-" * 13 + other, "+" * 14 + other,
                "+" * 6 + other + "-" * 7,
            ):
                assert_raises(self, InvalidText, read_table, text)


class ExamplesTest(unittest.TestCase):
    def test_interface(self):
        assert_defined_in(self, module, ("write_row", "read_row", "write_table", "read_table"))

    def test_examples(self):
        self.assertEqual(
            [
                write_row(("allow", "deny")), read_row("-"), write_table(("deny",) * 14),
                read_table("+" * 14) == ("allow",) * 14,
            ],
            ["+-", ("deny",), "--------------", True],
        )
        with self.assertRaises(InvalidText):
            read_row("+0")


if __name__ == "__main__":
    unittest.main()
