"""Points 7 to 9: what any way can keep, what clashes, and how many tables keep a set."""

import unittest

import oracle
from asserts import NO_TUPLES, NO_VOICES, assert_defined_in, assert_raises
from rulevoices import maps as module
from rulevoices.errors import BadPromises
from rulevoices.maps import (
    can_add, can_hold, clashes, count_tables, greatest_sets, keepers, least_clashes,
)
from rulevoices.promises import holds, promises
from rulevoices.ways import ways

OF_WANTED = (can_hold, keepers, can_add, clashes, count_tables)

LEAST = (
    ("even", "heard"),
    ("even", "order"),
    ("most", "parts"),
    ("most", "repeat"),
    ("mixed", "order", "repeat"),
    ("agreed", "heard", "mixed", "parts"),
    ("agreed", "mixed", "order", "parts"),
    ("growing", "heard", "mixed", "parts"),
    ("growing", "heard", "mixed", "repeat"),
    ("growing", "mixed", "order", "parts"),
    ("heard", "kept", "mixed", "parts"),
    ("heard", "kept", "mixed", "repeat"),
    ("heard", "mixed", "parts", "repeat"),
    ("kept", "mixed", "order", "parts"),
)

GREATEST = (
    ("agreed", "even", "growing", "kept", "mixed", "most"),
    ("agreed", "even", "growing", "kept", "mixed", "parts", "repeat"),
    ("agreed", "growing", "heard", "kept", "mixed", "most", "order"),
    ("agreed", "growing", "heard", "kept", "order", "parts", "repeat"),
    ("agreed", "heard", "mixed", "repeat"),
    ("heard", "mixed", "order", "parts"),
)

SETS = oracle.all_sets()


def lies_in(part, group):
    return set(part) <= set(group)


class SetsTest(unittest.TestCase):
    """All 1,024 sets of promises, against all tables counted one by one."""

    @classmethod
    def setUpClass(cls):
        kept_by_tables = list(oracle.all_tables().values())
        different = {kept: kept_by_tables.count(kept) for kept in set(kept_by_tables)}
        cls.tables = {
            wanted: sum(many for kept, many in different.items() if lies_in(wanted, kept))
            for wanted in SETS
        }

    def test_there_are_all_sets(self):
        self.assertEqual(len(self.tables), 1024)

    def test_count_tables(self):
        for wanted, many in self.tables.items():
            self.assertEqual(count_tables(wanted), many, wanted)

    def test_can_hold(self):
        for wanted, many in self.tables.items():
            self.assertIs(can_hold(wanted), many > 0, wanted)

    def test_keepers(self):
        for wanted, many in self.tables.items():
            told = tuple(way for way in ways() if all(holds(way, one) for one in wanted))
            self.assertEqual(keepers(wanted), told)
            self.assertEqual(told != (), many > 0, wanted)

    def test_can_add(self):
        for wanted in SETS:
            further = tuple(
                one for one in promises()
                if one not in wanted and self.tables[tuple(sorted(wanted + (one,)))] > 0
            )
            self.assertEqual(can_add(wanted), further, wanted)

    def test_clashes(self):
        for wanted, many in self.tables.items():
            told = tuple(group for group in LEAST if lies_in(group, wanted))
            self.assertEqual(clashes(wanted), told, wanted)
            self.assertEqual(told == (), many > 0, wanted)

    def test_least_clashes(self):
        none = [group for group in SETS if self.tables[group] == 0]
        least = [
            group for group in none
            if not any(other != group and lies_in(other, group) for other in none)
        ]
        self.assertEqual(least_clashes(), tuple(least))

    def test_greatest_sets(self):
        some = [group for group in SETS if self.tables[group] > 0]
        greatest = [
            group for group in some
            if not any(other != group and lies_in(group, other) for other in some)
        ]
        self.assertEqual(greatest_sets(), tuple(sorted(greatest)))


class ToldTest(unittest.TestCase):
    def test_least_clashes(self):
        self.assertEqual(least_clashes(), LEAST)
        self.assertEqual(list(LEAST), sorted(LEAST, key=lambda group: (len(group), group)))

    def test_greatest_sets(self):
        self.assertEqual(greatest_sets(), GREATEST)
        self.assertEqual(list(GREATEST), sorted(GREATEST))

    def test_the_numbers_that_are_told(self):
        for wanted, many in (
            (("most", "order"), 2),
            (("agreed", "parts"), 4),
            (("order", "repeat"), 8),
            (("parts",), 16),
            ((), 16384),
        ):
            self.assertEqual(count_tables(wanted), many)
            self.assertIs(type(count_tables(wanted)), int)

    def test_no_promise_wanted(self):
        self.assertIs(can_hold(()), True)
        self.assertEqual(keepers(()), ways())
        self.assertEqual(can_add(()), promises())
        self.assertEqual(clashes(()), ())

    def test_all_promises_wanted(self):
        self.assertIs(can_hold(promises()), False)
        self.assertEqual(keepers(promises()), ())
        self.assertEqual(can_add(promises()), ())
        self.assertEqual(clashes(promises()), LEAST)
        self.assertEqual(count_tables(promises()), 0)

    def test_nothing_can_be_added_to_a_clash(self):
        self.assertEqual(can_add(("even", "heard")), ())
        self.assertEqual(can_add(("agreed", "most", "parts")), ())

    def test_one_promise_wanted(self):
        self.assertEqual(keepers(("most",)), tuple(way for way in ways() if way[:4] == "most"))
        self.assertEqual(keepers(("heard",)), (
            "allow over", "deny over", "island", "most or allow", "most or deny", "odd",
        ))
        self.assertEqual(can_add(("most",)), (
            "agreed", "even", "growing", "heard", "kept", "mixed", "order",
        ))

    def test_interface(self):
        assert_defined_in(self, module, (
            "can_hold", "keepers", "can_add", "least_clashes", "clashes", "greatest_sets",
            "count_tables",
        ))


class WrongValuesTest(unittest.TestCase):
    def assert_bad(self, value):
        for call in OF_WANTED:
            assert_raises(self, BadPromises, call, value)

    def test_no_tuple(self):
        for value in NO_TUPLES:
            self.assert_bad(value)

    def test_not_ascending(self):
        self.assert_bad(("parts", "agreed"))
        self.assert_bad(("agreed", "mixed", "even"))
        self.assert_bad(("even", "agreed", "growing"))
        self.assert_bad(promises()[::-1])

    def test_a_promise_twice(self):
        self.assert_bad(("agreed", "agreed"))
        self.assert_bad(("agreed", "parts", "parts"))
        self.assert_bad(("agreed", "parts", "agreed"))
        self.assert_bad(promises() + ("repeat",))

    def test_another_value(self):
        for value in NO_VOICES + ("fair", "agree", "Agreed", "zeal"):
            self.assert_bad((value,))
            self.assert_bad(("agreed", value))
            self.assert_bad((value, "agreed"))
            self.assert_bad(("agreed", value, "parts"))
        self.assert_bad((("agreed",),))
        self.assert_bad((("agreed", "parts"),))


class ExamplesTest(unittest.TestCase):
    def test_examples(self):
        self.assertEqual(
            [
                keepers(("agreed", "parts")), keepers(("even", "most")),
                can_hold(("mixed", "order", "repeat")),
            ],
            [
                ("allow over", "deny over", "first", "last"), ("most or first", "most or last"),
                False,
            ],
        )
        self.assertEqual(
            [
                len(least_clashes()), len(greatest_sets()),
                clashes(("agreed", "heard", "mixed", "most", "parts")), can_add(("most", "order")),
            ],
            [
                14, 6, (("most", "parts"), ("agreed", "heard", "mixed", "parts")),
                ("agreed", "growing", "heard", "kept", "mixed"),
            ],
        )
        wanted_sets = (("agreed", "parts"), ("parts",), ("order", "repeat"), ("even", "order"))
        self.assertEqual([count_tables(wanted) for wanted in wanted_sets], [4, 16, 8, 0])
        with self.assertRaises(BadPromises):
            can_hold(("parts", "agreed"))


if __name__ == "__main__":
    unittest.main()
