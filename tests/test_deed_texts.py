"""Points 17, 22, 133, 136, 139 and 140, as far as they are about single lines of deeds."""

from neveralone.deed_texts import format_deed, parse_deed
from neveralone.errors import BadText
from neveralone.notation import parse_row
from tests.support import Case

LINES = {
    "toggle 0 0 1 2": ("toggle", 0, (0, 1, 2)), "toggle 3 0 7": ("toggle", 3, (0, 7)), "toggle 1 0 1 2 3 4 5 6 7": ("toggle", 1, tuple(range(8))),
    "number 0 0": ("number", 0, 0), "number 2 34359738367": ("number", 2, 34359738367),
    "rename 0": ("rename", (0,)), "rename 3 1 0 2": ("rename", (3, 1, 0, 2)),
    "keep 3 0 1 | 2 3": ("keep", 3, ((0, 1), (2, 3))), "keep 0 0": ("keep", 0, ((0,),)), "keep 1 1 2 | 0 3 | 4": ("keep", 1, ((1, 2), (0, 3), (4,))),
    "drop 0": ("drop", 0), "drop 12": ("drop", 12),
}
LONGEST, TOO_LONG = "9" * 60, "1" + "0" * 60


class Texts(Case):
    def test_139_there_and_back(self):
        for line, deed in LINES.items():
            self.assertEqual(format_deed(deed), line)
            self.assertEqual(parse_deed(line), deed)

    def test_136_parsed_deeds_are_tuples(self):
        for line in LINES:
            deed = parse_deed(line)
            self.assertIs(type(deed), tuple)
            self.assertEqual([type(part) for part in deed if not isinstance(part, (str, int))],
                             [tuple] * (deed[0] in ("toggle", "rename", "keep")))
        self.assertEqual([type(room) for room in parse_deed("keep 3 0 1 | 2 3")[2]], [tuple, tuple])

    def test_140_numbers_of_60_and_61_digits(self):
        self.assertEqual(parse_deed(f"number {LONGEST} {LONGEST}"), ("number", int(LONGEST), int(LONGEST)))
        self.assertEqual(parse_deed(f"drop {LONGEST}"), ("drop", int(LONGEST)))
        self.assertEqual(parse_deed(f"keep {LONGEST} 0"), ("keep", int(LONGEST), ((0,),)))
        for line in (f"number 0 {TOO_LONG}", f"number {TOO_LONG} 0", f"drop {TOO_LONG}", f"toggle {TOO_LONG} 0 1", f"rename {TOO_LONG}",
                     f"keep {TOO_LONG} 0", f"toggle 0 0 1 {TOO_LONG}"):
            self.assertFails(BadText(1, "number"), parse_deed, line)
        self.assertFails(BadText(1, "row"), parse_deed, f"keep 0 {TOO_LONG}")

    def test_140_words_that_are_none_and_too_few_or_too_many_words(self):
        for line in ("", " ", "toggel 0 0 1", "Toggle 0 0 1", "0", "desk 4 2 2", " toggle 0 0 1", "undo", "keep|3 0", "toggle\t0 0 1",
                     "toggle", "toggle 0", "toggle x", "keep", "keep 3", "keep x", "rename", "number", "number 0", "number 0 0 0",
                     "number x", "number 0 0 x", "number 0 0 ", "drop", "drop 0 0", "drop 0 ", "drop x y", "number  0 0"):
            self.assertFails(BadText(1, "deed"), parse_deed, line)

    def test_140_words_that_are_no_numbers(self):
        for line in ("toggle x 0 1", "toggle -1 0 1", "toggle 0 0 01", "toggle 0 0 +1", "toggle 0 0 1 ", "toggle  0 1", "toggle 0  0 1",
                     "toggle 0 ", "toggle  0", "number x 0", "number 0 x", "number 0 -5", "number 0 ", "number  0", "number 00 0", "rename ",
                     "rename x", "rename 0 1 ", "rename 0  1", "rename 1 0 2,3", "keep x 0 1 | 2 3", "keep  0 1 | 2 3", "keep 03 0", "keep  ",
                     "keep -3 x", "drop x", "drop ", "drop -1", "drop 00", "drop 1.", "toggle 0 0 1\t2", "rename 0 | 1"):
            self.assertFails(BadText(1, "number"), parse_deed, line)

    def test_140_rows(self):
        for rest in ("", " ", "x", "0 1 |2 3", "0 1| 2 3", "0 1 |", "| 0 1", "0 1 | ", "0 1 |  2 3", "0  1 | 2 3", " 0 1 | 2 3", "0 1 | 2 3 ",
                     "1 0", "0 0", "12", "0 1 | 2 12", "-1", "01", "0 1 | | 2", "0 1 || 2 3"):
            self.assertFails(BadText(1, "row"), parse_deed, f"keep 3 {rest}")
            with self.assertRaises(BadText):
                parse_row(rest)

    def test_140_the_number_is_asked_ahead_of_the_row(self):
        self.assertFails(BadText(1, "number"), parse_deed, "keep x 1 0")
        self.assertFails(BadText(1, "row"), parse_deed, "keep 99 1 0")

    def test_140_what_fails_only_on_a_desk_is_parsed(self):
        self.assertEqual(parse_deed("toggle 9 5 5 0"), ("toggle", 9, (5, 5, 0)))
        self.assertEqual(parse_deed("rename 7 7"), ("rename", (7, 7)))
        self.assertEqual(parse_deed("keep 9 11 | 11"), ("keep", 9, ((11,), (11,))))
