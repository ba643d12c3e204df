"""Point [53], with point [3] on texts: the texts of needs."""

from itertools import product

from tests.checks import Checks
from villagelines.errors import BadNeed
from villagelines.needs.need import Need
from villagelines.needs.notation import read_need, write_need

WORDS = ("heads", "pupils")
NEEDS = {
    "1 heads": Need(2, [(1, 0)]),
    "3 pupils": Need(2, [(0, 3)]),
    "2 heads and 1 pupils": Need(2, [(2, 1)]),
    "4 pupils or 1 heads and 2 pupils or 9 heads": Need(2, [(9, 0), (1, 2), (0, 4)]),
}
ATOMS = {"1 heads": Need(2, [(1, 0)]), "2 pupils": Need(2, [(0, 2)]), "3 heads": Need(2, [(3, 0)])}


class TestWrite(Checks):

    def test_interface(self):
        need = read_need("( 5 heads or 2 heads ) and 1 pupils or 7 heads", WORDS)
        self.assert_is(write_need(need, WORDS), '2 heads and 1 pupils or 7 heads')

    def test_written(self):
        for text, need in NEEDS.items():
            self.assert_is(write_need(need, WORDS), text)

    def test_one_and_three_kinds(self):
        self.assert_is(write_need(Need.of(1, 0, 12), ("a",)), "12 a")
        words = ("old", "young", "blue")
        self.assert_is(write_need(Need(3, [(1, 0, 3), (2, 0, 0), (0, 4, 1)]), words),
                       "4 young and 1 blue or 1 old and 3 blue or 2 old")
        self.assert_is(write_need(Need(3, [(1, 2, 3)]), words), "1 old and 2 young and 3 blue")

    def test_great_number(self):
        self.assert_is(write_need(Need.of(2, 1, 10 ** 60 - 1), WORDS), "9" * 60 + " pupils")

    def test_clean(self):
        self.assert_clean(write_need, Need(2, [(2, 1), (5, 0)]), WORDS)


class TestRead(Checks):

    def told(self, text, words=WORDS):
        need = read_need(text, words)
        self.assertIsInstance(need, Need)
        self.assert_is(need.kinds, len(words))
        return need.least

    def test_read(self):
        for text, need in NEEDS.items():
            self.assert_is(self.told(text), need.least)

    def test_one_and_three_kinds(self):
        self.assert_is(self.told("12 a or 3 a", ("a",)), ((3,),))
        self.assert_is(self.told("1 b and 2 c", ("a", "b", "c")), ((0, 1, 2),))

    def test_kinds_in_any_order_and_twice(self):
        self.assert_is(self.told("1 pupils and 2 heads and 3 pupils"), ((2, 3),))
        self.assert_is(self.told("3 heads or 2 heads"), ((2, 0),))

    def test_great_number(self):
        self.assert_is(self.told("9" * 60 + " heads"), ((10 ** 60 - 1, 0),))

    def test_and_binds_tighter_than_or(self):
        self.assert_is(self.told("1 heads or 2 heads and 3 pupils"), ((1, 0),))
        self.assert_is(self.told("9 heads or 2 heads and 3 pupils"), ((2, 3), (9, 0)))
        self.assert_is(self.told("2 heads and 3 pupils or 9 heads"), ((2, 3), (9, 0)))
        self.assert_is(self.told("( 9 heads or 2 heads ) and 3 pupils"), ((2, 3),))
        self.assert_is(self.told("3 pupils and ( 9 heads or 4 pupils )"), ((0, 4), (9, 3)))

    def test_brackets(self):
        self.assert_is(self.told("( 1 heads )"), ((1, 0),))
        self.assert_is(self.told("( ( 1 heads ) and ( 2 pupils ) )"), ((1, 2),))
        self.assert_is(self.told("( " * 8 + "1 heads" + " )" * 8), ((1, 0),))
        self.assert_is(self.told("( " * 20 + "1 heads" + " )" * 20), ((1, 0),))
        self.assert_is(self.told("( 1 heads or 3 pupils ) and ( 2 pupils or 4 heads )"), ((0, 3), (1, 2), (4, 0)))

    def test_sixty_words(self):
        text = " or ".join([f"{number} heads and {40 - number} pupils" for number in range(1, 11)])
        self.assertEqual(len(text.split(" ")), 59)
        self.assert_is(self.told(text), tuple((number, 40 - number) for number in range(1, 11)))

    def test_a_kind_may_be_any_word_but_the_signs(self):
        self.assert_is(self.told("1 a or 2 o", ("a", "o")), ((0, 2), (1, 0)))

    def test_what_the_signs_say(self):
        for (one, here), (two, there), (three, last) in product(ATOMS.items(), repeat=3):
            self.assertEqual(read_need(f"{one} and {two} or {three}", WORDS), here & there | last)
            self.assertEqual(read_need(f"{one} or {two} and {three}", WORDS), here | there & last)
            self.assertEqual(read_need(f"{one} and ( {two} or {three} )", WORDS), here & (there | last))
            self.assertEqual(read_need(f"( {one} or {two} ) and {three}", WORDS), (here | there) & last)

    def test_reads_what_was_written(self):
        rows = list(product(range(3), repeat=3))[1:]
        words = ("x", "y", "zed")
        for one, other in product(rows, rows[::3]):
            need = Need(3, [one, other, (4, 0, 1)])
            self.assertEqual(read_need(write_need(need, words), words), need)

    def test_clean(self):
        self.assert_clean(lambda text, words: read_need(text, words).least, "1 heads and 2 pupils", WORDS)


class TestFaults(Checks):

    def refused(self, text, at, why):
        with self.subTest(text):
            self.assert_raises(BadNeed, (at, why), read_need, text, WORDS)

    def test_start(self):
        for word in ("", "heads", "and", "or", ")", "x", "1x", "x1", "-1", "+1", "1.0", "1_0", "()", "(1"):
            self.refused(word, 0, "start")
            self.refused(f"{word} heads", 0, "start")
            self.refused(f"1 heads and {word}", 3, "start")
            self.refused(f"1 heads or {word} pupils", 3, "start")
            self.refused(f"( {word}", 1, "start")

    def test_start_at_the_end_of_the_text(self):
        self.refused("1 heads and", 3, "start")
        self.refused("1 heads or", 3, "start")
        self.refused("(", 1, "start")
        self.refused("( ( 1 heads ) and", 6, "start")

    def test_empty_text_and_empty_words(self):
        self.refused("", 0, "start")
        self.refused(" ", 0, "start")
        self.refused(" 1 heads", 0, "start")
        self.refused("1 heads and ", 3, "start")
        self.refused("1 heads and  2 heads", 3, "start")
        self.refused("1  heads", 1, "kind")
        self.refused("1 ", 1, "kind")
        self.refused("1 heads ", 2, "end")
        self.refused("1 heads  and 2 heads", 2, "end")
        self.refused("( 1 heads  )", 3, "close")

    def test_number(self):
        for word in ("0", "00", "01", "007", "0" * 60):
            self.refused(f"{word} heads", 0, "number")
            self.refused(word, 0, "number")
            self.refused(f"1 heads and ( {word}", 4, "number")

    def test_kind(self):
        for word in ("head", "heads1", "Heads", "and", "or", "(", ")", "1", "0"):
            self.refused(f"1 {word}", 1, "kind")
            self.refused(f"1 heads or 2 {word} and", 4, "kind")
        self.refused("1", 1, "kind")
        self.refused("1 heads and 2", 4, "kind")

    def test_close(self):
        for word in ("1", "0", "heads", "(", "x"):
            self.refused(f"( 1 heads {word}", 3, "close")
            self.refused(f"( ( 1 heads ) {word} )", 5, "close")
        self.refused("( 1 heads", 3, "close")
        self.refused("( 1 heads and 2 pupils", 6, "close")
        self.refused("( ( 1 heads )", 5, "close")

    def test_end(self):
        for word in ("1", "0", "heads", "(", ")", "x", "And"):
            self.refused(f"1 heads {word}", 2, "end")
            self.refused(f"( 1 heads or 2 pupils ) {word} 1 heads", 7, "end")
        self.refused("1 heads )", 2, "end")
        self.refused("( 1 heads ) )", 4, "end")

    def test_first_word_is_told_first(self):
        self.refused("x 0 foo", 0, "start")
        self.refused("0 foo", 0, "number")
        self.refused("( 1 foo ) )", 2, "kind")
        self.refused("( 1 heads 0 ) )", 3, "close")
        self.refused("1 heads 0 foo", 2, "end")

    def test_words_of_other_needs_are_no_kinds(self):
        self.assert_raises(BadNeed, (1, "kind"), read_need, "1 heads", ("pupils",))
