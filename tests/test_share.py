"""Point [49]: the share of the worlds in which a question holds."""

from fractions import Fraction

from tests.checks import Checks
from tests.sketches import EXAMPLE, PAIRS, questions_about, worlds_by_definition
from villagelines.region.book import Region
from villagelines.sketch.share import share_of
from villagelines.sketch.sketch import Sketch
from villagelines.ways.ever import holds


class TestShare(Checks):

    def test_interface(self):
        self.assert_is(share_of(EXAMPLE, Sketch([(0,), (1, 2)], [(3, 3), (2, 4)]), ("meet", 0, 1)), (1, 2))

    def test_all_and_none(self):
        sketch = Sketch([(0, 1), (0, 1)], [(3, 3), (2, 4)])
        self.assert_is(share_of(EXAMPLE, sketch, ("run", 0)), (1, 1))
        self.assert_is(share_of(EXAMPLE, sketch, ("live", 0, 2)), (2, 3))
        self.assert_is(share_of(EXAMPLE, sketch.narrowed(1, most=2), ("live", 0, 2)), (0, 1))

    def test_no_families(self):
        self.assert_is(share_of(EXAMPLE, Sketch([], []), ("run", 0)), (0, 1))

    def test_every_sketch(self):
        for region, sketch in PAIRS:
            worlds = worlds_by_definition(sketch)
            for question in questions_about(region, sketch):
                yes = sum(holds(region, heads, placing, question) for heads, placing in worlds)
                share = Fraction(yes, len(worlds))
                self.assert_is(share_of(region, sketch, question), (share.numerator, share.denominator))

    def test_at_the_bounds(self):
        region = Region(5, [((0, 1, 2, 3, 4), 10 ** 12)] * 8)
        sketch = Sketch([(0, 4)] * 4, [(1, 1), (10 ** 12 - 4, 10 ** 12 - 1), (1, 1), (1, 1)])
        self.assert_is(self.assert_short(share_of, region, sketch, ("run", 7)), (3, 4))

    def test_clean(self):
        self.assert_clean(share_of, *PAIRS[3], ("meet", 0, 1))
