"""Point [42]: the placings of a class, how many they are, and their order."""

from types import GeneratorType

from tests.checks import Checks
from tests.worlds import SMALL_WORLDS, WORLDS, placings_of, ways_from
from villagelines.classes.members import class_size, members
from villagelines.classes.ranking import member_at, rank_of
from villagelines.errors import NoSuch
from villagelines.region.book import Region

EXAMPLE = Region(3, [((0, 1), 5), ((1, 2), 6)])
FOUR = [[0, 0], [0, 1], [1, 0], [1, 1]]


def members_of(region, heads, placing):
    return list(members(region, heads, placing))


class TestMembers(Checks):

    def test_example(self):
        self.assertIs(type(members(EXAMPLE, [3, 2], [1, 0])), GeneratorType)
        self.assert_is(members_of(EXAMPLE, [3, 2], [1, 0]), FOUR)
        self.assert_is(class_size(EXAMPLE, [3, 2], [1, 0]), 4)
        self.assert_is(class_size(EXAMPLE, [3, 2, 1], [0, 1, 2]), 18)

    def test_one_placing(self):
        self.assert_is(members_of(EXAMPLE, [3, 2], [2, 0]), [[2, 0]])
        self.assert_is(class_size(EXAMPLE, [3, 2], [2, 0]), 1)
        self.assert_is(members_of(Region.bare(3), [4, 5], [2, 1]), [[2, 1]])

    def test_no_families(self):
        for region in (EXAMPLE, Region.bare(1)):
            self.assert_is(members_of(region, [], []), [[]])
            self.assert_is(class_size(region, [], []), 1)

    def test_one_village(self):
        self.assert_is(members_of(Region.bare(1), [4, 5], [0, 0]), [[0, 0]])

    def test_the_caller_changes_what_it_is_given(self):
        heads, placing = [3, 2], [1, 0]
        told = []
        for member in members(EXAMPLE, heads, placing):
            told.append(list(member))
            member.reverse()
            member.append(7)
        self.assert_is(told, FOUR)
        self.assert_is((heads, placing), ([3, 2], [1, 0]))

    def test_worlds(self):
        for region, heads in WORLDS + SMALL_WORLDS[::4]:
            for placing in placings_of(region, heads)[::3]:
                wanted = [list(member) for member in sorted(ways_from(region, heads, placing))]
                self.assert_is(members_of(region, heads, placing), wanted)
                self.assert_is(class_size(region, heads, placing), len(wanted))

    def test_at_the_bounds(self):
        region = Region(2, [((0, 1), 6 * 10 ** 12)] * 8)
        self.assert_is(self.assert_short(class_size, region, [10 ** 12] * 6, [0] * 6), 64)
        region = Region(7, [((0, 1, 2, 3, 4), 10 ** 12), ((2, 3, 4, 5, 6), 10 ** 12)] * 4)
        self.assert_is(self.assert_short(class_size, region, [10 ** 12] * 2, [0, 6]), 49)

    def test_clean(self):
        self.assert_clean(members_of, EXAMPLE, [3, 2], [1, 0])
        self.assert_clean(members_of, EXAMPLE, [], [])
        self.assert_clean(class_size, EXAMPLE, [3, 2], [1, 0])


class TestRanking(Checks):

    def test_example(self):
        for rank, placing in enumerate(FOUR):
            self.assert_is(rank_of(EXAMPLE, [3, 2], placing), rank)
            for other in FOUR:
                self.assert_is(member_at(EXAMPLE, [3, 2], other, rank), placing)

    def test_one_placing(self):
        self.assert_is(rank_of(EXAMPLE, [3, 2], [2, 0]), 0)
        self.assert_is(member_at(EXAMPLE, [3, 2], [2, 0], 0), [2, 0])

    def test_no_families(self):
        self.assert_is(rank_of(EXAMPLE, [], []), 0)
        self.assert_is(member_at(EXAMPLE, [], [], 0), [])
        self.assert_raises(NoSuch, (1, 1), member_at, EXAMPLE, [], [], 1)

    def test_behind_the_ends(self):
        for index in (-1, 4, -4, 10 ** 12):
            self.assert_raises(NoSuch, (index, 4), member_at, EXAMPLE, [3, 2], [1, 0], index)
        for index in (-1, 1):
            self.assert_raises(NoSuch, (index, 1), member_at, EXAMPLE, [3, 2], [2, 0], index)

    def test_worlds(self):
        for region, heads in WORLDS + SMALL_WORLDS[::6]:
            for placing in placings_of(region, heads)[::5]:
                group = members_of(region, heads, placing)
                rank = rank_of(region, heads, placing)
                self.assert_is(group[rank], placing)
                self.assert_is(member_at(region, heads, placing, rank), placing)
                self.assert_is(member_at(region, heads, placing, len(group) - 1), group[-1])
                self.assert_raises(NoSuch, (len(group), len(group)), member_at, region, heads, placing, len(group))

    def test_clean(self):
        self.assert_clean(rank_of, EXAMPLE, [3, 2], [1, 0])
        self.assert_clean(member_at, EXAMPLE, [3, 2], [1, 0], 2)
