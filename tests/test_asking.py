"""Point [50]: which families to ask for, so that a question is settled."""

from itertools import combinations

from tests.checks import Checks
from tests.sketches import EXAMPLE, PAIRS, questions_about, worlds_by_definition
from villagelines.region.book import Region
from villagelines.sketch.asking import asking
from villagelines.sketch.sketch import Sketch
from villagelines.sketch.verdict import verdict
from villagelines.ways.ever import holds


def asking_by_definition(region, sketch, question):
    """The first smallest list of families that settles the question, found by looking at each two worlds."""
    worlds = [(world, holds(region, *world, question)) for world in worlds_by_definition(sketch)]

    def agree(one, other, families):
        return all(one[at][family] == other[at][family] for at in (0, 1) for family in families)

    for size in range(len(sketch.homes) + 1):
        for families in combinations(range(len(sketch.homes)), size):
            if all(yes == no for one, yes in worlds for other, no in worlds if agree(one, other, families)):
                return list(families)
    return None


class TestAsking(Checks):

    def test_interface(self):
        self.assert_is(asking(EXAMPLE, Sketch([(0,), (1, 2)], [(3, 3), (2, 4)]), ("meet", 0, 1)), [1])

    def test_nothing_is_open(self):
        self.assert_is(asking(EXAMPLE, Sketch([(0, 1), (0, 1)], [(3, 3), (2, 4)]), ("run", 0)), [])
        self.assert_is(asking(EXAMPLE, Sketch([], []), ("run", 0)), [])

    def test_first_of_the_smallest(self):
        region = Region(2, [((0, 1), 10)])
        sketch = Sketch([(0,)] * 3, [(1, 2), (8, 9), (1, 1)])
        self.assert_is(asking(region, sketch.narrowed(0, least=2), ("run", 0)), [])
        self.assert_is(asking(region, sketch.narrowed(2, most=1), ("run", 0)), [])
        self.assert_is(asking(Region(2, [((0, 1), 11)]), sketch, ("run", 0)), [0, 1])
        self.assert_is(asking(Region(2, [((0, 1), 4)]), Sketch([(0,)] * 3, [(1, 1), (1, 2), (1, 2)]), ("run", 0)),
                       [1, 2])

    def test_homes_settle_as_heads_do(self):
        region = Region(3, [((0, 1), 4)])
        sketch = Sketch([(0,), (1, 2), (0, 1)], [(3, 3), (1, 1), (1, 1)])
        self.assert_is(asking(region, sketch, ("live", 1, 0)), [1])
        self.assert_is(asking(region, sketch, ("meet", 0, 2)), [])

    def test_all_families(self):
        sketch = Sketch([(0, 1)] * 4, [(1, 1)] * 4)
        self.assert_is(self.assert_short(asking, Region(2, [((0, 1), 5)]), sketch, ("meet", 0, 1)), [0, 1])
        sketch = Sketch([(0,)] * 4, [(1, 2)] * 4)
        self.assert_is(self.assert_short(asking, Region(2, [((0, 1), 8)]), sketch, ("run", 0)), [0, 1, 2, 3])

    def test_every_sketch(self):
        for region, sketch in PAIRS:
            if sketch.many <= 40:
                for question in questions_about(region, sketch):
                    found = asking(region, sketch, question)
                    self.assert_is(found, asking_by_definition(region, sketch, question))
                    self.assertEqual(found == [], verdict(region, sketch, question)[0] != "open")

    def test_clean(self):
        self.assert_clean(asking, *PAIRS[3], ("meet", 0, 1))
        self.assert_clean(asking, *PAIRS[2], ("meet", 0, 1))
