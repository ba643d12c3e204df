"""Point [11]: finer divisions, meets and merges."""

from tests.checks import Checks
from villagelines.lots.divisions import divisions_of, singles, tidy
from villagelines.lots.order import is_finer, meet_of, merge_of

DIVISIONS = list(divisions_of(4))
PAIRS = [(one, other) for one in DIVISIONS for other in DIVISIONS]


def lies_within(one, other):
    """The definition of a finer division, by sets."""
    return all(any(set(block) <= set(there) for there in other) for block in one)


class TestFiner(Checks):

    def test_examples(self):
        self.assertIs(is_finer([[0], [1], [2]], [[0, 1], [2]]), True)
        self.assertIs(is_finer([[0, 1], [2]], [[0], [1], [2]]), False)
        self.assertIs(is_finer([[0, 1], [2]], [[0, 2], [1]]), False)
        self.assertIs(is_finer([[0, 2], [1]], [[0, 1, 2]]), True)

    def test_finer_than_itself(self):
        for division in DIVISIONS:
            self.assertIs(is_finer(division, division), True)

    def test_one_village(self):
        self.assertIs(is_finer([[0]], [[0]]), True)

    def test_every_pair(self):
        for one, other in PAIRS:
            self.assertIs(is_finer(one, other), lies_within(one, other))

    def test_clean(self):
        self.assert_clean(is_finer, [[0], [1, 2]], [[0, 1, 2]])


class TestMeet(Checks):

    def test_examples(self):
        self.assert_is(meet_of([[0, 1, 2], [3, 4]], [[0, 2, 4], [1, 3]]), [[0, 2], [1], [3], [4]])
        self.assert_is(meet_of([[0, 3], [1, 2]], [[0, 3], [1], [2]]), [[0, 3], [1], [2]])

    def test_ordered_by_first_village(self):
        self.assert_is(meet_of([[0, 2, 3], [1, 4]], [[0, 3, 4], [1, 2]]), [[0, 3], [1], [2], [4]])
        self.assert_is(meet_of([[0, 1, 3], [2]], [[0, 3], [1, 2]]), [[0, 3], [1], [2]])

    def test_one_village(self):
        self.assert_is(meet_of([[0]], [[0]]), [[0]])

    def test_with_the_first_and_the_last_division(self):
        for division in DIVISIONS:
            self.assert_is(meet_of(division, [[0, 1, 2, 3]]), division)
            self.assert_is(meet_of(division, singles(4)), singles(4))
            self.assert_is(meet_of(division, division), division)

    def test_every_pair(self):
        for one, other in PAIRS:
            shared = [sorted(set(block) & set(there)) for block in one for there in other]
            self.assert_is(meet_of(one, other), tidy(4, shared))

    def test_greatest_below_both(self):
        for one, other in PAIRS:
            meet = meet_of(one, other)
            for division in DIVISIONS:
                below = lies_within(division, one) and lies_within(division, other)
                self.assertIs(lies_within(division, meet), below)

    def test_clean(self):
        self.assert_clean(meet_of, [[0, 1, 2], [3]], [[0, 3], [1, 2]])
        self.assert_clean(meet_of, [[0], [1]], [[0], [1]])


class TestMerge(Checks):

    def test_examples(self):
        self.assert_is(merge_of([[0, 1], [2], [3]], [[0], [1, 2], [3]]), [[0, 1, 2], [3]])
        self.assert_is(merge_of([[0, 3], [1], [2]], [[0], [1, 2], [3]]), [[0, 3], [1, 2]])

    def test_a_chain_of_blocks(self):
        one, other = [[0, 4], [1, 3], [2]], [[0], [1], [2, 3], [4]]
        self.assert_is(merge_of(one, other), [[0, 4], [1, 2, 3]])
        self.assert_is(merge_of([[0, 1], [2, 3], [4]], [[0], [1, 2], [3, 4]]), [[0, 1, 2, 3, 4]])

    def test_one_village(self):
        self.assert_is(merge_of([[0]], [[0]]), [[0]])

    def test_with_the_first_and_the_last_division(self):
        for division in DIVISIONS:
            self.assert_is(merge_of(division, [[0, 1, 2, 3]]), [[0, 1, 2, 3]])
            self.assert_is(merge_of(division, singles(4)), division)
            self.assert_is(merge_of(division, division), division)

    def test_least_above_both(self):
        for one, other in PAIRS:
            merge = merge_of(one, other)
            self.assert_is(tidy(4, merge), merge)
            for division in DIVISIONS:
                above = lies_within(one, division) and lies_within(other, division)
                self.assertIs(lies_within(merge, division), above)

    def test_clean(self):
        self.assert_clean(merge_of, [[0, 1], [2], [3]], [[0], [1, 2], [3]])
        self.assert_clean(merge_of, [[0], [1]], [[0], [1]])
