"""Points [51] and [52]: needs."""

from copy import deepcopy
from itertools import product

from tests.checks import Checks
from villagelines.errors import BadNeed
from villagelines.needs.need import Need

CROWDS = list(product(range(6), repeat=2))
NEEDS = [
    Need(2, [(1, 0)]),
    Need(2, [(0, 3)]),
    Need(2, [(2, 1), (5, 0)]),
    Need(2, [(1, 4), (2, 3), (4, 1)]),
    Need(2, [(4, 4)]),
]


class TestMaking(Checks):

    def test_attributes(self):
        need = Need(2, [(5, 0), (2, 1)])
        self.assert_is(need.kinds, 2)
        self.assert_is(need.least, ((2, 1), (5, 0)))

    def test_drops_duplicates(self):
        self.assert_is(Need(1, [(3,), (3,)]).least, ((3,),))

    def test_drops_rows_that_reach_another(self):
        self.assert_is(Need(2, [(3, 3), (2, 2), (2, 3), (1, 5), (2, 2)]).least, ((1, 5), (2, 2)))
        self.assert_is(Need(1, [(9,), (4,), (6,)]).least, ((4,),))
        self.assert_is(Need(3, [(1, 1, 1), (0, 2, 0), (0, 0, 1)]).least, ((0, 0, 1), (0, 2, 0)))

    def test_great_numbers(self):
        self.assert_is(Need(1, [(10 ** 60 - 1,)]).least, ((10 ** 60 - 1,),))

    def test_copies_its_list(self):
        rows = [(5, 0), (2, 1), (6, 0)]
        need = Need(2, rows)
        self.assert_is(rows, [(5, 0), (2, 1), (6, 0)])
        rows.append((0, 1))
        self.assert_is(need.least, ((2, 1), (5, 0)))

    def test_no_rows(self):
        self.assert_raises(BadNeed, (-1, "rows"), Need, 2, [])

    def test_length(self):
        self.assert_raises(BadNeed, (0, "length"), Need, 2, [(1,)])
        self.assert_raises(BadNeed, (0, "length"), Need, 2, [(1, 1, 1)])
        self.assert_raises(BadNeed, (0, "length"), Need, 2, [()])

    def test_below(self):
        self.assert_raises(BadNeed, (0, "below"), Need, 2, [(1, -1)])
        self.assert_raises(BadNeed, (0, "below"), Need, 2, [(0, -1)])

    def test_nothing(self):
        self.assert_raises(BadNeed, (0, "nothing"), Need, 2, [(0, 0)])
        self.assert_raises(BadNeed, (0, "nothing"), Need, 1, [(0,)])

    def test_order_of_faults_in_a_row(self):
        self.assert_raises(BadNeed, (0, "length"), Need, 2, [(-1,)])
        self.assert_raises(BadNeed, (0, "length"), Need, 2, [(0, 0, 0)])

    def test_first_row_is_told_first(self):
        self.assert_raises(BadNeed, (1, "nothing"), Need, 2, [(1, 1), (0, 0), (-1, 0), (1,)])
        self.assert_raises(BadNeed, (1, "below"), Need, 2, [(1, 1), (-1, 0), (1,), (0, 0)])
        self.assert_raises(BadNeed, (2, "length"), Need, 2, [(1, 1), (1, 1), (1,)])

    def test_normal_form_is_equal_exactly_if_met_by_the_same_crowds(self):
        rows = [row for row in product(range(3), repeat=2) if row != (0, 0)]
        needs = [Need(2, [one, other]) for one in rows for other in rows]
        met = [[need(crowd) for crowd in CROWDS] for need in needs]
        for one, met_one in zip(needs, met):
            for other, met_other in zip(needs, met):
                self.assertEqual(one.least == other.least, met_one == met_other)


class TestOf(Checks):

    def test_of(self):
        self.assertEqual(Need.of(1, 0, 4), Need(1, [(4,)]))
        self.assert_is(Need.of(3, 0, 2).least, ((2, 0, 0),))
        self.assert_is(Need.of(3, 2, 1).least, ((0, 0, 1),))
        self.assert_is(Need.of(3, 1, 7).kinds, 3)

    def test_met_by_at_least_the_number(self):
        need = Need.of(2, 1, 3)
        self.assertEqual([crowd for crowd in CROWDS if need(crowd)],
                         [crowd for crowd in CROWDS if crowd[1] >= 3])


class TestMeeting(Checks):

    def test_interface(self):
        need = Need.of(2, 0, 2) & Need.of(2, 1, 1) | Need.of(2, 0, 5)
        self.assert_is(need.least, ((2, 1), (5, 0)))
        self.assert_is((need((4, 0)), need((2, 3))), (False, True))

    def test_exactly_enough(self):
        need = Need(2, [(2, 1), (5, 0)])
        for crowd, wanted in {(2, 1): True, (5, 0): True, (1, 9): False, (4, 0): False, (0, 0): False}.items():
            self.assertIs(need(crowd), wanted)

    def test_one_row_must_be_reached_whole(self):
        self.assertIs(Need(2, [(3, 0), (0, 3)])((2, 2)), False)

    def test_met_by_its_rows_even_those_dropped(self):
        rows = [(3, 3), (2, 2), (0, 5)]
        need = Need(2, rows)
        for crowd in CROWDS:
            self.assertIs(need(crowd), any(crowd[0] >= row[0] and crowd[1] >= row[1] for row in rows))


class TestSigns(Checks):

    def test_and(self):
        both = Need(2, [(2, 0), (0, 3)]) & Need(2, [(1, 1)])
        self.assertIsInstance(both, Need)
        self.assert_is((both.kinds, both.least), (2, ((1, 3), (2, 1))))

    def test_or(self):
        one_of_them = Need(2, [(2, 0), (0, 3)]) | Need(2, [(1, 1), (3, 0)])
        self.assertIsInstance(one_of_them, Need)
        self.assert_is((one_of_them.kinds, one_of_them.least), (2, ((0, 3), (1, 1), (2, 0))))

    def test_met_by_exactly_the_crowds(self):
        for one in NEEDS:
            for other in NEEDS:
                both, one_of_them = one & other, one | other
                for crowd in CROWDS:
                    self.assertIs(both(crowd), one(crowd) and other(crowd))
                    self.assertIs(one_of_them(crowd), one(crowd) or other(crowd))

    def test_signs_change_neither(self):
        for one in NEEDS:
            for other in NEEDS:
                before = deepcopy((one.least, other.least))
                self.assertEqual((one & other, one | other), (one & other, one | other))
                self.assert_is((one.least, other.least), before)

    def test_forty_rows(self):
        one = Need(2, [(at, 39 - at) for at in range(40)])
        other = Need(2, [(2 * at, 78 - 2 * at) for at in range(40)])
        self.assertEqual(len(one.least), 40)
        self.assertEqual(one | other, one)
        self.assertEqual(one & other, other)

    def test_other_kinds(self):
        one, other = Need.of(1, 0, 1), Need.of(2, 0, 1)
        self.assert_raises(BadNeed, (-1, "kinds"), Need.__and__, one, other)
        self.assert_raises(BadNeed, (-1, "kinds"), Need.__or__, one, other)
        self.assert_raises(BadNeed, (-1, "kinds"), Need.__and__, other, one)
        self.assert_raises(BadNeed, (-1, "kinds"), Need.__or__, other, one)

    def test_equal(self):
        self.assertIs(Need(2, [(2, 1), (5, 0)]) == Need(2, [(5, 0), (6, 6), (2, 1)]), True)
        self.assertIs(Need(2, [(2, 1)]) == Need(2, [(2, 2)]), False)
        self.assertIs(Need(2, [(2, 1)]) != Need(2, [(2, 2)]), True)
        self.assertIs(Need.of(1, 0, 2) == Need.of(2, 0, 2), False)

    def test_not_equal_to_what_is_no_need(self):
        for other in (None, 2, "need", ((2, 1),), [(2, 1)], (2, ((2, 1),))):
            self.assertIs(Need(2, [(2, 1)]) == other, False)
            self.assertIs(other == Need(2, [(2, 1)]), False)


class TestImplies(Checks):

    def test_implies(self):
        self.assertIs(Need(2, [(2, 1)]).implies(Need(2, [(2, 0)])), True)
        self.assertIs(Need(2, [(2, 0)]).implies(Need(2, [(2, 1)])), False)
        self.assertIs(Need(2, [(2, 1), (5, 0)]).implies(Need(2, [(2, 0)])), True)
        self.assertIs(Need(2, [(2, 1), (0, 9)]).implies(Need(2, [(2, 0)])), False)

    def test_every_crowd(self):
        for one in NEEDS:
            for other in NEEDS:
                wanted = all(other(crowd) for crowd in CROWDS if one(crowd))
                self.assertIs(one.implies(other), wanted)
