"""Point 13: a desk."""

import unittest

import oracle
from asserts import NO_NAMES, assert_defined_in, assert_raises
from rulevoices import desks as module
from rulevoices.desks import Desk
from rulevoices.errors import BadWay, InvalidText, NothingToUndo, NotNow, NotText
from rulevoices.texts import write_row
from rulevoices.ways import answer, matters, ways

NO_STRINGS = (
    None, True, False, 0, 1, -1, (), ("allow",), ("row",), [], ["allow"], ["undo"], {},
    {"allow": "deny"}, b"allow",
)

NO_LINES = (
    "", " ", "maybe", "Allow", "ALLOW", "allow ", " deny", "deny\n", "allow deny", "allow,deny",
    "rows", "Row", "row ", "answers", " answer", "matter", "matters ", "none", "undo", "way",
    "first", "+", "-", "0",
)


def desk_with(way, signs):
    """Return a desk to which the voices that signs stand for were said."""
    desk = Desk(way)
    for voice in oracle.voices(signs):
        desk.run(voice)
    return desk


def seen(desk):
    """Return all that a desk shows."""
    asked = tuple(desk.run(line) for line in ("row", "answer", "matters"))
    return asked + (desk.row, desk.answer)


class LinesTest(unittest.TestCase):
    def test_no_voice(self):
        for way in ways():
            self.assertEqual(seen(Desk(way)), ("", "none", "none", (), None), way)

    def test_one_voice(self):
        self.assertEqual(seen(desk_with("first", "+")), ("+", "allow", "0", ("allow",), "allow"))
        self.assertEqual(seen(desk_with("odd", "-")), ("-", "deny", "0", ("deny",), "deny"))
        self.assertEqual(
            seen(desk_with("always allow", "-")), ("-", "allow", "none", ("deny",), "allow"),
        )

    def test_voices_return_none(self):
        desk = Desk("last")
        for voice in ("allow", "deny") * 6:
            self.assertIsNone(desk.run(voice))
        self.assertEqual(desk.row, ("allow", "deny") * 6)

    def test_twelve_voices(self):
        desk = desk_with("odd", "+-" * 6)
        self.assertEqual(desk.run("row"), "+-+-+-+-+-+-")
        self.assertEqual(desk.run("answer"), "allow")
        self.assertEqual(desk.run("matters"), "0 1 2 3 4 5 6 7 8 9 10 11")
        desk = desk_with("most or deny", "+-" * 6)
        self.assertEqual(desk.run("answer"), "deny")
        self.assertEqual(desk.run("matters"), "1 3 5 7 9 11")

    def test_no_place_matters(self):
        desk = desk_with("deny over", "+--")
        self.assertEqual(desk.run("matters"), "none")
        self.assertEqual(desk.run("answer"), "deny")

    def test_each_way_as_it_hears_twelve_voices(self):
        for way in ways():
            for signs in ("+-++--+-+--+", "-+++++++----", "------+-----", "++++++++++++"):
                desk = Desk(way)
                for length, voice in enumerate(oracle.voices(signs), start=1):
                    desk.run(voice)
                    row = oracle.voices(signs[:length])
                    places = " ".join(str(place) for place in matters(way, row))
                    told = (write_row(row), answer(way, row), places or "none")
                    self.assertEqual(seen(desk), told + (row, answer(way, row)))

    def test_asking_changes_nothing(self):
        desk = desk_with("island", "-+-")
        first = seen(desk)
        self.assertEqual(seen(desk), first)
        self.assertEqual(first, ("-+-", "allow", "0 1 2", ("deny", "allow", "deny"), "allow"))

    def test_kinds(self):
        desk = desk_with("first", "+-")
        for line in ("row", "answer", "matters"):
            self.assertIs(type(desk.run(line)), str)
        self.assertIs(type(desk.row), tuple)
        self.assertIs(type(Desk("first").row), tuple)

    def test_desks_are_apart(self):
        one, other = Desk("first"), Desk("first")
        one.run("allow")
        self.assertEqual((one.row, other.row), (("allow",), ()))
        other.run("deny")
        self.assertEqual((one.answer, other.answer), ("allow", "deny"))


class UndoTest(unittest.TestCase):
    def test_back_to_no_voice_and_once_more(self):
        for way in ways():
            signs = "+--+-++-+--+"
            desk = desk_with(way, signs)
            for length in range(11, 0, -1):
                self.assertIsNone(desk.undo())
                self.assertEqual(seen(desk), seen(desk_with(way, signs[:length])))
            self.assertIsNone(desk.undo())
            self.assertEqual(seen(desk), ("", "none", "none", (), None))
            assert_raises(self, NothingToUndo, desk.undo)
            self.assertEqual(seen(desk), ("", "none", "none", (), None))
            desk.run("deny")
            self.assertEqual(seen(desk), seen(desk_with(way, "-")))

    def test_nothing_was_said(self):
        desk = Desk("odd")
        assert_raises(self, NothingToUndo, desk.undo)
        assert_raises(self, NothingToUndo, desk.undo)
        self.assertEqual(desk.row, ())

    def test_another_voice_instead(self):
        desk = desk_with("last", "++")
        desk.undo()
        desk.run("deny")
        self.assertEqual(seen(desk), ("+-", "deny", "1", ("allow", "deny"), "deny"))

    def test_lines_that_ask_are_not_taken_back(self):
        desk = desk_with("last", "+-")
        desk.run("row")
        desk.run("answer")
        desk.undo()
        self.assertEqual(desk.row, ("allow",))


class ErrorsTest(unittest.TestCase):
    def test_no_way(self):
        for value in NO_NAMES:
            assert_raises(self, BadWay, Desk, value)

    def test_a_thirteenth_voice(self):
        for way in ways():
            desk = desk_with(way, "+--+-++-+--+")
            before = seen(desk)
            for voice in ("allow", "deny"):
                assert_raises(self, NotNow, desk.run, voice)
                self.assertEqual(seen(desk), before)
            desk.undo()
            self.assertIsNone(desk.run("deny"))
            self.assertEqual(desk.run("row"), "+--+-++-+---")

    def test_no_line(self):
        for signs in ("", "+", "-+-", "+" * 12):
            desk = desk_with("most or first", signs)
            before = seen(desk)
            for line in NO_LINES:
                assert_raises(self, InvalidText, desk.run, line)
                self.assertEqual(seen(desk), before)

    def test_no_string(self):
        for signs in ("", "+", "-+-", "+" * 12):
            desk = desk_with("most or first", signs)
            before = seen(desk)
            for value in NO_STRINGS:
                assert_raises(self, NotText, desk.run, value)
                self.assertEqual(seen(desk), before)


class ExamplesTest(unittest.TestCase):
    def test_interface(self):
        assert_defined_in(self, module, ("Desk",))
        for name in ("run", "undo"):
            self.assertTrue(callable(vars(Desk)[name]), name)
        for name in ("row", "answer"):
            self.assertIs(type(vars(Desk)[name]), property, name)

    def test_examples(self):
        desk = Desk("most or deny")
        lines = (
            "answer", "allow", "deny", "answer", "matters", "allow", "answer", "matters", "row",
        )
        self.assertEqual(
            [desk.run(line) for line in lines],
            ["none", None, None, "deny", "1", None, "allow", "0 2", "+-+"],
        )
        self.assertEqual(
            [desk.undo(), desk.row, desk.answer], [None, ("allow", "deny"), "deny"],
        )
        with self.assertRaises(InvalidText):
            desk.run("maybe")


if __name__ == "__main__":
    unittest.main()
