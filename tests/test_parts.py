"""Point 10: the sixteen ways that go by parts."""

import itertools
import unittest

import oracle
from asserts import NO_TUPLES, NO_VOICES, assert_defined_in, assert_index, assert_raises
from rulevoices import parts as module
from rulevoices.errors import BadRow, NotParts
from rulevoices.parts import is_parts, parts_answer, parts_ways
from rulevoices.promises import holds
from rulevoices.ways import answer, table_of, ways

# The answers stand in the order of the rows + - ++ +- -+ --
SIXTEEN = (
    "++++++", "++----", "+-++++", "+-+++-", "+-++--", "+-+-+-", "+-+--+", "+-+---",
    "+--++-", "+-----", "-+++++", "-++--+", "-+-++-", "-+----", "--++++", "------",
)

ODD = oracle.voices("+-+--+")
# Its answers to one voice are right, but it says (allow, deny, deny) in two ways.
NO_PARTS = oracle.voices("+--+--")


class WaysTest(unittest.TestCase):
    def test_the_sixteen_in_their_order(self):
        self.assertEqual(parts_ways(), tuple(oracle.voices(signs) for signs in SIXTEEN))
        self.assertIs(type(parts_ways()), tuple)
        self.assertTrue(all(type(small) is tuple for small in parts_ways()))
        self.assertEqual(list(parts_ways()), sorted(set(parts_ways())))
        self.assertEqual(len(parts_ways()), 16)

    def test_the_tables_that_keep_parts(self):
        small = [signs[:6] for signs, kept in oracle.all_tables().items() if "parts" in kept]
        self.assertEqual(sorted(small), list(SIXTEEN))

    def test_interface(self):
        assert_defined_in(self, module, ("is_parts", "parts_ways", "parts_answer"))


class IsPartsTest(unittest.TestCase):
    def test_all_tuples_of_six(self):
        for signs in map("".join, itertools.product("+-", repeat=6)):
            said = is_parts(oracle.voices(signs))
            self.assertIs(said, signs in SIXTEEN, signs)
            # No longer row breaks what the rows of up to three voices allow.
            self.assertIs(said, oracle.goes_by_parts(signs, 3), signs)
            self.assertIs(said, oracle.goes_by_parts(signs, 8), signs)

    def test_told_ways(self):
        for way in ways():
            by_parts = holds(way, "parts")
            small = table_of(way)[:6]
            said = is_parts(small) and all(
                parts_answer(small, row) == answer(way, row)
                for row in map(oracle.voices, oracle.rows_up_to(6))
            )
            self.assertIs(said, by_parts, way)

    def test_other_lengths(self):
        for length in (0, 1, 2, 5, 7, 12, 14):
            for voice in ("allow", "deny"):
                self.assertIs(is_parts((voice,) * length), False)
        self.assertIs(is_parts(ODD[:5]), False)
        self.assertIs(is_parts(ODD + ("allow",)), False)
        self.assertIs(is_parts(table_of("odd")), False)

    def test_other_kinds(self):
        for value in NO_TUPLES + ("++++++", "odd", ["allow"] * 6, list(ODD), 6, {0: ODD}):
            self.assertIs(is_parts(value), False, value)

    def test_items_that_are_no_voice(self):
        for value in NO_VOICES:
            for place in range(6):
                self.assertIs(is_parts(ODD[:place] + (value,) + ODD[place + 1:]), False)
            self.assertIs(is_parts((value,) * 6), False)
        self.assertIs(is_parts((ODD,) * 6), False)


class AnswersTest(unittest.TestCase):
    def test_against_parting_anywhere(self):
        for signs in SIXTEEN:
            small = oracle.voices(signs)
            for row in oracle.rows_up_to(8):
                said = parts_answer(small, oracle.voices(row))
                for cut in range(1, max(2, len(row))):
                    self.assertEqual(said, oracle.VOICE[oracle.by_parts(signs, row, cut)])

    def test_its_own_answers_to_parts(self):
        row = oracle.voices("+--+-+++-+--")
        for small in parts_ways():
            for length in range(2, 13):
                for cut in range(1, length):
                    both = (
                        parts_answer(small, row[:cut]), parts_answer(small, row[cut:length]),
                    )
                    self.assertEqual(parts_answer(small, row[:length]), parts_answer(small, both))

    def test_the_six_answers(self):
        for small in parts_ways():
            rows = [oracle.voices(signs) for signs in oracle.rows_up_to(2)]
            self.assertEqual(tuple(parts_answer(small, row) for row in rows), small)

    def test_told_ways(self):
        rows = [oracle.voices(signs) for signs in oracle.rows_of(12)[::7]]
        for way in ("allow over", "always allow", "always deny", "deny over", "first", "last", "odd"):
            small = table_of(way)[:6]
            for row in rows:
                self.assertEqual(parts_answer(small, row), answer(way, row), (way, row))

    def test_by_hand(self):
        for small, row, told in (
            ("-++--+", "+", "-"),        # turns one voice, otherwise denies if one of two denies
            ("-++--+", "-", "+"),
            ("-++--+", "+++", "-"),
            ("-++--+", "++++", "+"),
            ("-++--+", "+++-", "-"),
            ("-++--+", "+-+-+", "-"),
            ("+--++-", "++++", "-"),     # allows if the number of allow is odd
            ("+--++-", "+++", "+"),
            ("+--++-", "++-+-" * 2 + "-+", "+"),
            ("++----", "-", "+"),
            ("++----", "+" * 12, "-"),
            ("--++++", "+", "-"),
            ("--++++", "-" * 12, "+"),
        ):
            said = parts_answer(oracle.voices(small), oracle.voices(row))
            self.assertEqual(said, oracle.VOICE[told], (small, row))


class WrongValuesTest(unittest.TestCase):
    def test_no_parts(self):
        for value in NO_TUPLES + ((), ODD[:5], ODD + ODD[:1], NO_PARTS, (None,) * 6, list(ODD)):
            assert_raises(self, NotParts, parts_answer, value, ("deny",))

    def test_all_tuples_of_six_that_are_no_parts(self):
        for signs in map("".join, itertools.product("+-", repeat=6)):
            if signs not in SIXTEEN:
                assert_raises(self, NotParts, parts_answer, oracle.voices(signs), ("deny",))

    def test_no_row(self):
        for value in NO_TUPLES + ((), ("allow",) * 13, (1,) * 13):
            assert_index(self, BadRow, None, parts_answer, ODD, value)
        for value in NO_VOICES:
            for small in parts_ways():
                assert_index(self, BadRow, 0, parts_answer, small, (value,))
            assert_index(self, BadRow, 2, parts_answer, ODD, ("deny", "deny", value, value))
            assert_index(self, BadRow, 11, parts_answer, ODD, ("deny",) * 11 + (value,))

    def test_the_first_invalid_argument(self):
        assert_raises(self, NotParts, parts_answer, NO_PARTS, ())
        assert_raises(self, NotParts, parts_answer, None, None)
        assert_raises(self, NotParts, parts_answer, ("deny",), ODD[:3] + (1,))
        assert_raises(self, NotParts, parts_answer, ["allow"] * 6, ("allow", "denied"))


class ExamplesTest(unittest.TestCase):
    def test_examples(self):
        odd = ("allow", "deny", "allow", "deny", "deny", "allow")
        self.assertEqual(
            [
                len(parts_ways()), is_parts(odd),
                parts_answer(odd, ("deny", "deny", "allow", "deny")),
                is_parts(("allow", "deny", "deny", "allow", "deny", "deny")),
            ],
            [16, True, "deny", False],
        )
        with self.assertRaises(NotParts):
            parts_answer(odd[:5], ("deny",))


if __name__ == "__main__":
    unittest.main()
