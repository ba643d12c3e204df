"""Point [47]: the worlds that fit a sketch."""

from types import GeneratorType

from tests.checks import Checks
from tests.sketches import SKETCHES, worlds_by_definition
from villagelines.sketch.sketch import Sketch
from villagelines.sketch.worlds import worlds_of


def all_worlds(sketch):
    return list(worlds_of(sketch))


class TestWorlds(Checks):

    def test_order(self):
        self.assertIs(type(worlds_of(SKETCHES[0])), GeneratorType)
        self.assert_is(all_worlds(Sketch([(0, 2), (1,)], [(1, 2), (3, 4)])), [
            ([1, 3], [0, 1]), ([1, 4], [0, 1]), ([2, 3], [0, 1]), ([2, 4], [0, 1]),
            ([1, 3], [2, 1]), ([1, 4], [2, 1]), ([2, 3], [2, 1]), ([2, 4], [2, 1]),
        ])

    def test_no_families_and_one_world(self):
        self.assert_is(all_worlds(Sketch([], [])), [([], [])])
        self.assert_is(all_worlds(Sketch([(4,)], [(10 ** 12, 10 ** 12)])), [([10 ** 12], [4])])

    def test_every_sketch(self):
        for sketch in SKETCHES:
            self.assert_is(all_worlds(sketch), worlds_by_definition(sketch))

    def test_the_caller_changes_what_it_is_given(self):
        for sketch in SKETCHES:
            told = []
            for heads, placing in worlds_of(sketch):
                told.append((list(heads), list(placing)))
                for row in (heads, placing):
                    row.append(7)
                    row.reverse()
            self.assert_is(told, worlds_by_definition(sketch))

    def test_at_the_bounds(self):
        sketch = Sketch([(0, 6)] * 4, [(1, 1), (10 ** 12 - 3, 10 ** 12), (2, 2), (3, 3)])
        self.assert_is(len(self.assert_short(all_worlds, sketch)), 64)

    def test_clean(self):
        for sketch in SKETCHES:
            self.assert_clean(all_worlds, sketch)
