"""Point [48]: the verdict of a question about a sketch."""

from tests.checks import Checks
from tests.sketches import EXAMPLE, PAIRS, questions_about, worlds_by_definition
from villagelines.region.book import Region
from villagelines.sketch.sketch import Sketch
from villagelines.sketch.verdict import verdict
from villagelines.ways.ever import holds

FAR = 10 ** 12


def verdict_by_definition(region, sketch, question):
    """The verdict, found by looking at each world."""
    least, most = [[span[at] for span in sketch.spans] for at in (0, 1)]
    worlds = worlds_by_definition(sketch)
    yes = [placing for heads, placing in worlds if heads == most and holds(region, heads, placing, question)]
    no = [placing for heads, placing in worlds if heads == least and not holds(region, heads, placing, question)]
    answers = {holds(region, heads, placing, question) for heads, placing in worlds}
    if len(answers) == 1:
        return ("yes",) if answers == {True} else ("no",)
    return ("open", (most, yes[0]), (least, no[0]))


class TestVerdict(Checks):

    def test_interface(self):
        region = Region(3, [((0, 1), 5), ((1, 2), 6)])
        found = verdict(region, Sketch([(0,), (1, 2)], [(3, 3), (2, 4)]), ("meet", 0, 1))
        self.assert_is(found, ('open', ([3, 4], [0, 1]), ([3, 2], [0, 2])))

    def test_yes_and_no(self):
        sketch = Sketch([(0, 1), (0, 1)], [(3, 3), (2, 4)])
        self.assert_is(verdict(EXAMPLE, sketch, ("meet", 0, 1)), ("yes",))
        self.assert_is(verdict(EXAMPLE, sketch, ("run", 0)), ("yes",))
        self.assert_is(verdict(EXAMPLE, sketch, ("live", 0, 1)), ("yes",))
        self.assert_is(verdict(EXAMPLE, Sketch([(0, 1), (2,)], [(2, 4), (1, 1)]), ("live", 1, 0)), ("no",))

    def test_only_the_heads_are_open(self):
        sketch = Sketch([(0,), (1,)], [(3, 4), (1, 2)])
        self.assert_is(verdict(EXAMPLE, sketch, ("run", 0)), ("open", ([4, 2], [0, 1]), ([3, 1], [0, 1])))

    def test_equal_worlds_are_no_one_list(self):
        found = verdict(EXAMPLE, Sketch([(0,), (1,)], [(3, 4), (1, 2)]), ("run", 0))
        found[1][0].append(9)
        found[1][1].append(9)
        self.assert_is(found[2], ([3, 1], [0, 1]))

    def test_only_the_homes_are_open(self):
        sketch = Sketch([(0, 1, 2), (1,)], [(3, 3), (2, 2)])
        self.assert_is(verdict(EXAMPLE, sketch, ("meet", 0, 1)), ("open", ([3, 2], [0, 1]), ([3, 2], [2, 1])))

    def test_no_families(self):
        self.assert_is(verdict(EXAMPLE, Sketch([], []), ("run", 0)), ("no",))

    def test_great_spans(self):
        region = Region(5, [((0, 1, 2, 3, 4), FAR), ((0, 4), 4 * FAR)])
        sketch = Sketch([(0, 1)] * 4, [(1, FAR)] * 4)
        self.assert_is(self.assert_short(verdict, region, sketch, ("run", 0)),
                       ("open", ([FAR] * 4, [0] * 4), ([1] * 4, [0] * 4)))
        self.assert_is(self.assert_short(verdict, region, Sketch([(0,)] * 4, [(FAR // 4, FAR)] * 4), ("run", 0)),
                       ("yes",))
        self.assert_is(self.assert_short(verdict, region, Sketch([(0,)] * 4, [(1, FAR // 4 - 1)] * 4), ("run", 0)),
                       ("no",))

    def test_every_sketch(self):
        for region, sketch in PAIRS:
            for question in questions_about(region, sketch):
                self.assert_is(verdict(region, sketch, question), verdict_by_definition(region, sketch, question))

    def test_clean(self):
        for region, sketch in PAIRS:
            for question in questions_about(region, sketch)[::3]:
                self.assert_clean(verdict, region, sketch, question)
