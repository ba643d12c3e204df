"""Point [9], with point [3] on texts: the texts of regions and moves."""

from tests.checks import Checks
from villagelines.errors import BadRegion, BadText
from villagelines.region.book import Region
from villagelines.region.notation import read_moves, read_region, write_moves, write_region

REGIONS = {
    "villages 1": Region.bare(1),
    "villages 3\nline 5 0 1\nline 6 1 2": Region(3, [((0, 1), 5), ((1, 2), 6)]),
    "villages 7\nline 1000000000000 0 2 3 5 6\nline 1 0 1\nline 1 0 1":
        Region(7, [((0, 2, 3, 5, 6), 10 ** 12), ((0, 1), 1), ((0, 1), 1)]),
}

BAD_NUMBERS = ["", "00", "01", "007", "-1", "+1", "1.0", "1_0", "x", "1x", "0x1", "\t1"]


class TestWriteRegion(Checks):

    def test_example(self):
        region = Region(3, [((0, 1), 5), ((1, 2), 6)])
        self.assert_is(write_region(region), 'villages 3\nline 5 0 1\nline 6 1 2')

    def test_written(self):
        for text, region in REGIONS.items():
            self.assert_is(write_region(region), text)


class TestReadRegion(Checks):

    def test_read(self):
        for text, region in REGIONS.items():
            found = read_region(text)
            self.assertEqual(found, region)
            self.assert_is((found.villages, found.lines), (region.villages, region.lines))

    def test_great_number(self):
        text = "villages 2\nline " + "9" * 60 + " 0 1"
        self.assert_is(read_region(text).lines, (((0, 1), 10 ** 60 - 1),))

    def test_empty_text(self):
        self.assert_raises(BadText, (0, "form"), read_region, "")

    def test_bad_first_row(self):
        rows = ["villages", "villages 2 3", "village 2", "Villages 2", "2", "2 villages", "line 5 0 1",
                " villages 2", "villages 2 ", "villages  2", " "]
        rows += [f"villages {word}" for word in BAD_NUMBERS]
        for row in rows:
            with self.subTest(row):
                self.assert_raises(BadText, (0, "form"), read_region, row)

    def test_bad_line_row(self):
        rows = ["", " ", "line", "line ", "lines 5 0 1", "5 0 1", "villages 2", "Line 5 0 1",
                " line 5 0 1", "line  5 0 1", "line 5 0 1 ", "line 5  0 1"]
        rows += [f"line {word} 0 1" for word in BAD_NUMBERS]
        rows += [f"line 5 0 {word}" for word in BAD_NUMBERS]
        for row in rows:
            with self.subTest(row):
                text = f"villages 3\nline 5 0 1\n{row}\nline 6 1 2"
                self.assert_raises(BadText, (2, "form"), read_region, text)

    def test_empty_last_row(self):
        self.assert_raises(BadText, (1, "form"), read_region, "villages 2\n")
        self.assert_raises(BadText, (2, "form"), read_region, "villages 2\nline 5 0 1\n")

    def test_first_bad_row_is_told(self):
        self.assert_raises(BadText, (0, "form"), read_region, "x\nx")
        self.assert_raises(BadText, (1, "form"), read_region, "villages 2\nx\n\n")

    def test_bad_region(self):
        faults = {
            "villages 0": (-1, "villages"),
            "villages 0\nline 0": (-1, "villages"),
            "villages 2\nline 5": (0, "stops"),
            "villages 2\nline 5 0": (0, "stops"),
            "villages 2\nline 5 0 1\nline 5 0 2": (1, "range"),
            "villages 2\nline 5 1 0": (0, "order"),
            "villages 2\nline 0 0 1": (0, "number"),
            "villages 2\nline 0 0 1\nline 5": (0, "number"),
        }
        for text, fields in faults.items():
            with self.subTest(text):
                self.assert_raises(BadRegion, fields, read_region, text)

    def test_form_of_every_row_before_the_region(self):
        self.assert_raises(BadText, (2, "form"), read_region, "villages 0\nline 0\nline")


class TestMoves(Checks):

    ROWS = {
        "": [],
        "0 0 0": [(0, 0, 0)],
        "0 1 2\n10 200 3000\n0 1 2": [(0, 1, 2), (10, 200, 3000), (0, 1, 2)],
        "9" * 60 + " 0 " + "1" * 60: [(10 ** 60 - 1, 0, int("1" * 60))],
    }

    def test_written(self):
        for text, moves in self.ROWS.items():
            self.assert_is(write_moves(moves), text)

    def test_read(self):
        for text, moves in self.ROWS.items():
            self.assert_is(read_moves(text), moves)

    def test_bad_rows(self):
        rows = ["", " ", "1", "1 2", "1 2 3 4", " 1 2 3", "1 2 3 ", "1  2 3", "1 2", "move 1 2 3"]
        rows += [f"{word} 2 3" for word in BAD_NUMBERS]
        rows += [f"1 2 {word}" for word in BAD_NUMBERS]
        for row in rows:
            with self.subTest(row):
                self.assert_raises(BadText, (1, "form"), read_moves, f"0 0 0\n{row}\n0 0 0")

    def test_bad_only_row(self):
        self.assert_raises(BadText, (0, "form"), read_moves, " ")
        self.assert_raises(BadText, (0, "form"), read_moves, "1 2")

    def test_empty_rows(self):
        self.assert_raises(BadText, (0, "form"), read_moves, "\n")
        self.assert_raises(BadText, (0, "form"), read_moves, "\n0 0 0")
        self.assert_raises(BadText, (1, "form"), read_moves, "0 0 0\n")

    def test_first_bad_row_is_told(self):
        self.assert_raises(BadText, (1, "form"), read_moves, "0 0 0\n1\n\n1")

    def test_clean(self):
        self.assert_clean(write_moves, [(0, 1, 2), (3, 4, 5)])
        self.assert_clean(read_moves, "0 1 2\n3 4 5")
        self.assert_clean(read_moves, "")
        self.assert_clean(write_region, Region(2, [((0, 1), 5)]))
