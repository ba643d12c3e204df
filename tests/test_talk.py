"""Point [39]: two sides talk, and the lots of the glued region follow."""

from itertools import product

from tests.checks import Checks
from tests.sides import LARGE, ONE_GATE, TWO_GATES, response_by_definition
from villagelines.errors import BadSide
from villagelines.lots.closing import lots_of
from villagelines.region.book import Region
from villagelines.sides.glue import glued
from villagelines.sides.side import Side
from villagelines.sides.talk import glued_lots, talk

PAIRS = list(product(ONE_GATE, repeat=2))[::2] + list(product(TWO_GATES, repeat=2))
# Each message of these two joins one village more.
LONG = (
    Side(Region(4, [((0, 1), 2), ((1, 2), 8), ((2, 3), 32)]), [1, 1, 4, 16], (0,)),
    Side(Region(4, [((0, 1), 4), ((1, 2), 16), ((2, 3), 64)]), [0, 2, 8, 32], (0,)),
)


def talk_by_definition(left, right):
    """The messages, by the words of the document."""
    count = len(left.gates)
    told = [((position,), 0) for position in range(count)]
    messages = []
    while True:
        message = response_by_definition((left, right)[len(messages) % 2], told)
        if len(messages) >= 2 and message == messages[-2]:
            return messages
        messages.append(message)
        told = message


class TestTalk(Checks):

    def test_two_messages_at_least(self):
        alone = Side(Region.bare(1), [3], (0,))
        self.assert_is(talk(alone, alone), [[((0,), 3)], [((0,), 3)]])
        nobody = Side(Region.bare(2), [0, 0], (1, 0))
        self.assert_is(talk(nobody, nobody), [[((0,), 0), ((1,), 0)]] * 2)

    def test_three_messages(self):
        left = Side(Region(2, [((0, 1), 5)]), [1, 2], (0,))
        self.assert_is(talk(left, Side(Region.bare(1), [4], (0,))), [[((0,), 1)], [((0,), 4)], [((0,), 3)]])
        self.assert_is(talk(Side(Region.bare(1), [4], (0,)), left), [[((0,), 4)], [((0,), 3)]])

    def test_each_message_says_more(self):
        self.assert_is([message[0][1] for message in talk(*LONG)], [2, 2, 6, 10, 22, 42])
        self.assert_is(glued_lots(*LONG), [[0, 1, 2, 3, 4, 5, 6]])
        self.assert_is([message[0][1] for message in talk(LONG[1], LONG[0])], [0, 2, 2, 6, 10, 22, 42])

    def test_gates_that_become_one_lot(self):
        left = Side(Region(2, [((0, 1), 3)]), [1, 1], (0, 1))
        right = Side(Region(3, [((0, 1, 2), 3)]), [0, 0, 1], (1, 0))
        self.assert_is(talk(left, right), [[((0,), 1), ((1,), 1)], [((0, 1), 1)], [((0, 1), 2)]])
        self.assert_is(glued_lots(left, right), [[0, 1, 2]])

    def test_every_pair(self):
        for left, right in PAIRS:
            self.assert_is(talk(left, right), talk_by_definition(left, right))

    def test_other_numbers_of_gates(self):
        two = Side(Region.bare(2), [0, 0], (0, 1))
        for call in (talk, glued_lots):
            self.assert_raises(BadSide, ("gates",), call, LONG[0], two)
            self.assert_raises(BadSide, ("gates",), call, two, LONG[0])

    def test_clean(self):
        for call in (talk, glued_lots):
            self.assert_clean(call, *LONG)
            self.assert_clean(call, *LARGE)


class TestGluedLots(Checks):

    def test_lots_that_share_a_gate(self):
        left = Side(Region(3, [((0, 1), 2)]), [1, 1, 5], (1,))
        right = Side(Region(3, [((0, 2), 1)]), [1, 0, 0], (0,))
        self.assert_is(glued_lots(left, right), [[0, 1, 4], [2], [3]])

    def test_they_are_those_of_the_glued_region(self):
        for left, right in [*PAIRS, LARGE, (LARGE[1], LARGE[0]), LONG]:
            region, census, _ = glued(left, right)
            self.assert_is(glued_lots(left, right), lots_of(region, census))

    def test_at_the_bounds(self):
        region = Region(4, [((0, 1), 10 ** 12), ((1, 2), 10 ** 12), ((2, 3), 10 ** 12), ((0, 3), 10 ** 12)])
        one, other = Side(region, [10 ** 12 - 1, 0, 0, 0], (2, 3)), Side(region, [1, 0, 0, 0], (0, 1))
        self.assert_is(self.assert_short(glued_lots, one, other), [[village] for village in range(6)])
        other = Side(region, [0, 1, 0, 0], (0, 1))
        self.assert_is(self.assert_short(glued_lots, one, other), [[0, 1, 2, 3, 4, 5]])
