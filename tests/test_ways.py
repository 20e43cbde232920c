"""Points 2 and 3: rows, the thirteen told ways, their answers and the places that matter."""

import unittest

import oracle
from asserts import NO_NAMES, NO_TUPLES, NO_VOICES, assert_defined_in, assert_index, assert_raises
from rulevoices import ways as module
from rulevoices.errors import BadRow, BadWay
from rulevoices.ways import answer, matters, table_of, ways

NAMES = (
    "allow over", "always allow", "always deny", "both ends", "deny over", "first", "island",
    "last", "most or allow", "most or deny", "most or first", "most or last", "odd",
)

# The answers of the ways, in the order of NAMES, counted out by hand.
BY_HAND = {
    "+": "++-+++++" + "++++" + "+",
    "-": "-+------" + "----" + "-",
    "+-": "++---+--" + "+-+-" + "-",
    "-+": "++-----+" + "+--+" + "-",
    "--": "-+------" + "----" + "+",
    "-+-": "++----+-" + "----" + "+",
    "+-+": "++-+-+-+" + "++++" + "-",
    "++--": "++---+--" + "+-+-" + "+",
    "--++": "++-----+" + "+--+" + "+",
    "-++--": "++----+-" + "----" + "-",
    "+-++-": "++---+--" + "++++" + "+",
    "-+-+-+": "++-----+" + "+--+" + "-",
    "+-----------": "++---+--" + "----" + "-",
    "+++++------+": "++-+-+-+" + "+-++" + "+",
    "-++++++-----": "++----+-" + "+---" + "+",
    "-+++++++++++": "++-----+" + "++++" + "-",
    "++++++++++++": "++-+++++" + "++++" + "+",
}


class NamesTest(unittest.TestCase):
    def test_ways(self):
        self.assertEqual(ways(), NAMES)
        self.assertIs(type(ways()), tuple)
        self.assertEqual(list(ways()), sorted(set(ways())))
        self.assertEqual(len(ways()), 13)

    def test_interface(self):
        assert_defined_in(self, module, ("ways", "answer", "matters", "table_of"))


class AnswersTest(unittest.TestCase):
    def test_answers_by_hand(self):
        for signs, answers in BY_HAND.items():
            for way, told in zip(NAMES, answers, strict=True):
                said = answer(way, oracle.voices(signs))
                self.assertEqual(said, oracle.VOICE[told], (way, signs))

    def test_all_rows_up_to_twelve(self):
        for signs in oracle.rows_up_to(12):
            row = oracle.voices(signs)
            for way in NAMES:
                told = oracle.VOICE[oracle.WAYS[way](signs)]
                self.assertEqual(answer(way, row), told, (way, signs))

    def test_island_has_one_stretch_of_allow(self):
        for signs in ("+", "+++", "-+-", "--+---", "-++++-"):
            self.assertEqual(answer("island", oracle.voices(signs)), "allow", signs)
        for signs in ("-", "--", "+-", "-+", "+-+", "-+-+-", "-+-+", "--++"):
            self.assertEqual(answer("island", oracle.voices(signs)), "deny", signs)

    def test_as_many_of_both(self):
        row = oracle.voices("-+-++-")
        said = [answer(way, row) for way in NAMES if way.startswith("most")]
        self.assertEqual(said, ["allow", "deny", "deny", "deny"])
        row = oracle.voices("-+--++")
        said = [answer(way, row) for way in NAMES if way.startswith("most")]
        self.assertEqual(said, ["allow", "deny", "deny", "allow"])


class MattersTest(unittest.TestCase):
    def test_matters_by_hand(self):
        for way, signs, places in (
            ("first", "+", (0,)),
            ("first", "+--", (0,)),
            ("last", "+--", (2,)),
            ("always allow", "-", ()),
            ("always deny", "++", ()),
            ("deny over", "++++", (0, 1, 2, 3)),
            ("deny over", "++-+", (2,)),
            ("deny over", "+--+", ()),
            ("allow over", "---", (0, 1, 2)),
            ("allow over", "-+-", (1,)),
            ("both ends", "+-+", (0, 2)),
            ("both ends", "--+", (0,)),
            ("both ends", "---", ()),
            ("most or first", "++-", (0, 1)),
            ("most or first", "+-", (0,)),
            ("odd", "+" * 12, tuple(range(12))),
            ("island", "-+-", (0, 1, 2)),
            ("island", "-+++-", (0, 2, 4)),
            ("island", "++++", (0, 1, 2, 3)),
        ):
            self.assertEqual(matters(way, oracle.voices(signs)), places, (way, signs))

    def test_all_rows_up_to_eight(self):
        for signs in oracle.rows_up_to(8):
            for way, told in oracle.WAYS.items():
                places = tuple(
                    k for k in range(len(signs)) if told(oracle.turned_at(signs, k)) != told(signs)
                )
                self.assertEqual(matters(way, oracle.voices(signs)), places, (way, signs))

    def test_a_row_of_twelve(self):
        row = oracle.voices("++++++------")
        self.assertEqual(matters("most or allow", row), (0, 1, 2, 3, 4, 5))
        self.assertEqual(matters("most or deny", row), (6, 7, 8, 9, 10, 11))


class TablesTest(unittest.TestCase):
    def test_tables(self):
        rows = oracle.rows_up_to(3)
        for way, told in oracle.WAYS.items():
            table = table_of(way)
            self.assertIs(type(table), tuple)
            self.assertEqual(table, oracle.voices([told(row) for row in rows]), way)

    def test_the_order_of_the_rows(self):
        self.assertEqual(table_of("first"), oracle.voices("+-++--++++----"))
        self.assertEqual(table_of("last"), oracle.voices("+-+-+-+-+-+-+-"))
        self.assertEqual(table_of("deny over"), oracle.voices("+-+---+-------"))
        self.assertEqual(table_of("most or allow"), oracle.voices("+-+++-+++-+---"))
        self.assertEqual(table_of("odd"), oracle.voices("+-+--++--+-++-"))


class WrongValuesTest(unittest.TestCase):
    def test_no_way(self):
        for value in NO_NAMES:
            assert_raises(self, BadWay, answer, value, ("allow",))
            assert_raises(self, BadWay, matters, value, ("allow",))
            assert_raises(self, BadWay, table_of, value)

    def test_no_tuple(self):
        for call in (answer, matters):
            for value in NO_TUPLES:
                assert_index(self, BadRow, None, call, "first", value)

    def test_the_length_of_a_row(self):
        for call in (answer, matters):
            assert_index(self, BadRow, None, call, "first", ())
            assert_index(self, BadRow, None, call, "first", ("allow",) * 13)
            assert_index(self, BadRow, None, call, "odd", ("allow",) * 60)
            assert_index(self, BadRow, None, call, "odd", (None,) * 13)
            call("odd", ("allow",))
            call("odd", ("allow",) * 12)

    def test_an_item_that_is_no_voice(self):
        for call in (answer, matters):
            for value in NO_VOICES:
                assert_index(self, BadRow, 0, call, "last", (value,))
                assert_index(self, BadRow, 1, call, "first", ("deny", value, "allow", value))
                assert_index(self, BadRow, 2, call, "always deny", ("allow", "allow", value))
                assert_index(self, BadRow, 11, call, "odd", ("allow",) * 11 + (value,))

    def test_the_first_invalid_argument(self):
        for call in (answer, matters):
            assert_raises(self, BadWay, call, "second", ())
            assert_raises(self, BadWay, call, None, None)
            assert_raises(self, BadWay, call, ["first"], ("allow", 1))
            assert_raises(self, BadWay, call, ("allow",), "first")


class ExamplesTest(unittest.TestCase):
    def test_examples(self):
        row = ("allow", "deny", "allow")
        names = ("deny over", "allow over", "first", "most or deny", "odd", "island")
        self.assertEqual(
            [answer(way, row) for way in names],
            ["deny", "allow", "allow", "allow", "deny", "deny"],
        )
        self.assertEqual(
            [
                matters("deny over", row), matters("most or deny", row), matters("odd", row),
                len(ways()), table_of("island").count("allow"),
            ],
            [(1,), (0, 2), (0, 1, 2), 13, 4],
        )
        with self.assertRaises(BadRow):
            answer("first", ())


if __name__ == "__main__":
    unittest.main()
