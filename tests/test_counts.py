"""Point 11: how many rows of a length a way allows, and how often each place matters."""

import unittest

import oracle
from asserts import NO_NAMES, assert_defined_in, assert_raises
from rulevoices import counts as module
from rulevoices.counts import count_allowed, power
from rulevoices.errors import BadNumber, BadWay
from rulevoices.ways import matters, ways

# What answers the turned row with the turned voice.
TURNED_WAY = {
    "allow over": "deny over", "always allow": "always deny", "first": "first", "last": "last",
    "most or allow": "most or deny", "most or first": "most or first",
    "most or last": "most or last",
}

NO_NUMBERS = (
    None, True, False, 0, -1, -60, 61, 62, 120, 10 ** 40, -10 ** 40, "", "1", "12", "allow", (),
    (4,), [4], [], {}, {4: 4},
)


class AllRowsTest(unittest.TestCase):
    """Each way by counting all rows."""

    def test_up_to_eleven(self):
        for length in range(1, 12):
            rows = oracle.rows_of(length)
            for way, told in oracle.WAYS.items():
                answers = {row: told(row) for row in rows}
                allowed = list(answers.values()).count("+")
                self.assertEqual(count_allowed(way, length), allowed, (way, length))
                places = tuple(
                    sum(answers[row] != answers[oracle.turned_at(row, place)] for row in rows)
                    for place in range(length)
                )
                self.assertEqual(power(way, length), places, (way, length))

    def test_power_counts_matters(self):
        rows = [oracle.voices(signs) for signs in oracle.rows_of(6)]
        for way in ways():
            places = [matters(way, row) for row in rows]
            counted = tuple(sum(place in one for one in places) for place in range(6))
            self.assertEqual(power(way, 6), counted, way)


class LongRowsTest(unittest.TestCase):
    def test_up_to_sixty(self):
        for way in ways():
            allowed, powers = oracle.counts_by_machine(way, 60)
            for length in range(1, 61):
                self.assertEqual(count_allowed(way, length), allowed[length], (way, length))
                self.assertEqual(power(way, length), powers[length], (way, length))

    def test_the_turned_way(self):
        for length in range(1, 61):
            for way, other in TURNED_WAY.items():
                both = count_allowed(way, length) + count_allowed(other, length)
                self.assertEqual(both, 2 ** length, (way, length))
                self.assertEqual(power(way, length), power(other, length), (way, length))

    def test_the_row_read_backwards(self):
        for length in range(1, 61):
            for way, other in (
                ("first", "last"), ("most or first", "most or last"), ("island", "island"),
                ("both ends", "both ends"),
            ):
                self.assertEqual(count_allowed(way, length), count_allowed(other, length))
                self.assertEqual(power(way, length), power(other, length)[::-1])

    def test_numbers_for_sixty(self):
        half = 118264581564861424               # the rows of thirty allow and thirty deny
        for way, many in (
            ("allow over", 2 ** 60 - 1), ("always allow", 2 ** 60), ("always deny", 0),
            ("both ends", 2 ** 58), ("deny over", 1), ("first", 2 ** 59), ("last", 2 ** 59),
            ("island", 1 + 59 * 58 // 2), ("most or allow", (2 ** 60 + half) // 2),
            ("most or deny", (2 ** 60 - half) // 2), ("most or first", 2 ** 59),
            ("most or last", 2 ** 59), ("odd", 2 ** 59),
        ):
            self.assertEqual(count_allowed(way, 60), many, way)
        self.assertEqual(power("most or allow", 60), (half,) * 60)
        self.assertEqual(power("most or first", 60)[0], 2 * half)
        self.assertEqual(power("odd", 60), (2 ** 60,) * 60)
        self.assertEqual(power("deny over", 60), (2,) * 60)
        self.assertEqual(power("both ends", 60), (2 ** 59,) + (0,) * 58 + (2 ** 59,))
        self.assertEqual(power("last", 60), (0,) * 59 + (2 ** 60,))

    def test_kinds(self):
        for way in ways():
            for length in (1, 2, 3, 59, 60):
                self.assertIs(type(count_allowed(way, length)), int)
                self.assertIs(type(power(way, length)), tuple)
                self.assertEqual(len(power(way, length)), length)
                self.assertTrue(all(type(many) is int for many in power(way, length)))

    def test_interface(self):
        assert_defined_in(self, module, ("count_allowed", "power"))


class WrongValuesTest(unittest.TestCase):
    def test_no_number(self):
        for call in (count_allowed, power):
            for value in NO_NUMBERS:
                for way in ("first", "odd", "always deny", "island"):
                    assert_raises(self, BadNumber, call, way, value)

    def test_no_way(self):
        for call in (count_allowed, power):
            for value in NO_NAMES:
                assert_raises(self, BadWay, call, value, 4)

    def test_the_first_invalid_argument(self):
        for call in (count_allowed, power):
            assert_raises(self, BadWay, call, "second", 61)
            assert_raises(self, BadWay, call, 4, "first")
            assert_raises(self, BadWay, call, ["first"], True)
            assert_raises(self, BadWay, call, None, None)


class ExamplesTest(unittest.TestCase):
    def test_examples(self):
        names = ("deny over", "most or deny", "most or first", "island", "both ends")
        self.assertEqual([count_allowed(way, 4) for way in names], [1, 5, 8, 4, 4])
        self.assertEqual(
            [
                power("most or first", 4), power("both ends", 3), power("deny over", 4),
                count_allowed("first", 60),
            ],
            [(12, 4, 4, 4), (4, 0, 4), (2, 2, 2, 2), 576460752303423488],
        )
        with self.assertRaises(BadNumber):
            power("odd", 61)


if __name__ == "__main__":
    unittest.main()
