"""Points 4 to 6: the ten promises, what tables keep and what the told ways keep."""

import unittest

import oracle
from asserts import NO_NAMES, NO_TUPLES, NO_VOICES, assert_defined_in, assert_index, assert_raises
from rulevoices import promises as module
from rulevoices.errors import BadPromise, BadTable, BadWay
from rulevoices.promises import holds, keeps, promises
from rulevoices.ways import table_of, ways

# Point 6, as the document tells it.
TOLD = {
    ("first", "last"): "agreed, even, growing, kept, mixed, parts, repeat",
    ("allow over", "deny over"): "agreed, growing, heard, kept, order, parts, repeat",
    ("most or allow", "most or deny"): "agreed, growing, heard, kept, mixed, most, order",
    ("most or first", "most or last"): "agreed, even, growing, kept, mixed, most",
    ("odd",): "heard, mixed, order, parts",
    ("island",): "agreed, heard, mixed, repeat",
    ("both ends",): "agreed, growing, kept, mixed, repeat",
    ("always allow", "always deny"): "growing, kept, order, parts, repeat",
}

# For each promise a table that keeps it, then tables that break it, most by one answer alone.
# The answers stand in the order of the rows + - ++ +- -+ -- +++ ++- +-+ +-- -++ -+- --+ ---
KEPT_AND_BROKEN = {
    "agreed": ("+-++--++++----", "--++--++++----", "+--+--++++----", "+-++--++++---+"),
    "even": ("+-++--++++----", "++++--++++----", "+-+---++++----", "+-++--++++---+"),
    "growing": ("+-++--++++----", "-+++--++++----", "+-++--++++-+--", "+-++-+++++----"),
    "heard": ("+-+--++--+-++-", "+++--++--+-++-", "+-++--+--+-++-", "+-+--+++----++"),
    "kept": ("+-+++-+++-+---", "+-+++--++-+---", "+-+++-++--+---", "+-+++-+++-+--+"),
    "mixed": ("+-+---+-+-----", "+-+---+-------", "-+-++-+++++++-", "+++--+-------+"),
    "most": ("+-+---+++-+---", "+-+----++-+---", "+-+---+++-+-+-", "--+---+++-+---"),
    "order": ("+-+--++--+-++-", "+-++-++--+-++-", "+-+--+++-+-++-", "+-+--++--+-+--"),
    "parts": ("+-+---+-------", "+-+---+------+", "++++--++++----", "+-+---+---+---"),
    "repeat": ("+-++--++++----", "+-++--+-++----", "++++--++++----", "+-++--++++---+"),
}


class NamesTest(unittest.TestCase):
    def test_promises(self):
        self.assertEqual(promises(), oracle.PROMISES)
        self.assertIs(type(promises()), tuple)
        self.assertEqual(list(promises()), sorted(set(promises())))
        self.assertEqual(len(promises()), 10)

    def test_interface(self):
        assert_defined_in(self, module, ("promises", "keeps", "holds"))


class KeepsTest(unittest.TestCase):
    def test_each_promise_kept_and_broken(self):
        self.assertEqual(tuple(KEPT_AND_BROKEN), oracle.PROMISES)
        for promise, (kept, *broken) in KEPT_AND_BROKEN.items():
            self.assertIs(keeps(oracle.voices(kept), promise), True, promise)
            for signs in broken:
                self.assertIs(keeps(oracle.voices(signs), promise), False, (promise, signs))

    def test_heard_asks_each_place_of_each_length(self):
        # What the last place of three says never turns an answer; all other places are heard.
        self.assertFalse(keeps(oracle.voices("+-+--+" + "++----++"), "heard"))
        # So with the first place of two, and with the one place of one.
        self.assertFalse(keeps(oracle.voices("+-+-+-" + "+--+-++-"), "heard"))
        self.assertFalse(keeps(oracle.voices("--+--+" + "+--+-++-"), "heard"))

    def test_mixed_asks_rows_of_both_voices(self):
        self.assertFalse(keeps(oracle.voices("+-+--+" + "+------+"), "mixed"))
        self.assertTrue(keeps(oracle.voices("+-+--+" + "+-----++"), "mixed"))
        self.assertTrue(keeps(oracle.voices("+-++++" + "+++++-++"), "mixed"))

    def test_all_tables(self):
        for signs, kept in oracle.all_tables().items():
            table = oracle.voices(signs)
            said = tuple(promise for promise in oracle.PROMISES if keeps(table, promise))
            self.assertEqual(said, kept, signs)


class HoldsTest(unittest.TestCase):
    def test_what_the_document_tells(self):
        self.assertEqual(sorted(way for group in TOLD for way in group), list(ways()))
        for group, words in TOLD.items():
            kept = words.split(", ")
            for way in group:
                for promise in oracle.PROMISES:
                    said = holds(way, promise)
                    self.assertIs(said, promise in kept, (way, promise))
                    self.assertIs(keeps(table_of(way), promise), said, (way, promise))

    def test_longer_rows_keep_the_same(self):
        rows = oracle.rows_up_to(8)
        for way, told in oracle.WAYS.items():
            kept = oracle.kept_by({row: told(row) for row in rows}, 8)
            said = tuple(promise for promise in oracle.PROMISES if holds(way, promise))
            self.assertEqual(said, kept, way)


class WrongValuesTest(unittest.TestCase):
    def test_no_promise(self):
        for value in NO_NAMES + ("first", "odd"):
            if value in oracle.PROMISES:
                continue
            assert_raises(self, BadPromise, keeps, ("allow",) * 14, value)
            assert_raises(self, BadPromise, holds, "first", value)

    def test_no_way(self):
        for value in NO_NAMES:
            assert_raises(self, BadWay, holds, value, "agreed")

    def test_no_tuple_of_fourteen(self):
        for value in NO_TUPLES + ((), ("allow",), ("allow",) * 13, ("allow",) * 15, (1,) * 15):
            assert_index(self, BadTable, None, keeps, value, "agreed")

    def test_an_item_that_is_no_voice(self):
        for value in NO_VOICES:
            for index in range(14):
                table = ("deny",) * index + (value,) + ("allow",) * (13 - index)
                assert_index(self, BadTable, index, keeps, table, "agreed")
            assert_index(self, BadTable, 5, keeps, ("deny",) * 5 + (value,) * 9, "parts")

    def test_the_first_invalid_argument(self):
        assert_index(self, BadTable, None, keeps, (), "fair")
        assert_index(self, BadTable, None, keeps, "fair", None)
        assert_index(self, BadTable, 3, keeps, ("allow",) * 3 + (1,) * 11, ["agreed"])
        assert_raises(self, BadWay, holds, "second", "fair")
        assert_raises(self, BadWay, holds, "agreed", "first")


class ExamplesTest(unittest.TestCase):
    def test_examples(self):
        mine = ("allow", "deny", "allow", "deny", "deny", "deny", "allow") + ("deny",) * 7
        self.assertEqual(
            [
                len(promises()), holds("first", "even"), holds("deny over", "even"),
                holds("most or deny", "parts"),
            ],
            [10, True, False, False],
        )
        self.assertEqual(
            [keeps(mine, promise) for promise in ("agreed", "even", "mixed", "parts")],
            [True, False, False, True],
        )
        with self.assertRaises(BadPromise):
            keeps(mine, "fair")


if __name__ == "__main__":
    unittest.main()
