"""Point [46]: sketches."""

from tests.checks import Checks
from tests.sketches import SKETCHES, worlds_by_definition
from villagelines.errors import BadSketch
from villagelines.sketch.sketch import Sketch

FAR = 10 ** 12
HOMES = [(0,), (0, 1, 3), (2,)]
SPANS = [(3, 3), (2, 4), (1, FAR)]


def told(sketch):
    return sketch.homes, sketch.spans


def narrowed(family, **bounds):
    return told(Sketch(HOMES, SPANS).narrowed(family, **bounds))


class TestSketch(Checks):

    def test_attributes(self):
        self.assert_is(told(Sketch(HOMES, SPANS)), (((0,), (0, 1, 3), (2,)), ((3, 3), (2, 4), (1, FAR))))

    def test_no_families(self):
        self.assert_is(told(Sketch([], [])), ((), ()))
        self.assert_is(Sketch([], []).many, 1)

    def test_many(self):
        self.assert_is(Sketch(HOMES, SPANS).many, 9 * FAR)
        self.assert_is(Sketch([(0, 1, 2, 6)] * 2, [(1, FAR)] * 2).many, 16 * FAR ** 2)
        for sketch in SKETCHES:
            self.assert_is(sketch.many, len(worlds_by_definition(sketch)))

    def test_many_is_a_property(self):
        self.assertIsInstance(vars(Sketch)["many"], property)

    def test_copies_its_lists(self):
        homes, spans = list(HOMES), list(SPANS)
        sketch = Sketch(homes, spans)
        homes.append((4,))
        spans[0] = (7, 7)
        self.assert_is(told(sketch), (tuple(HOMES), tuple(SPANS)))
        self.assert_is((homes, spans), (HOMES + [(4,)], [(7, 7)] + SPANS[1:]))

    def test_length(self):
        self.assert_raises(BadSketch, (-1, "length"), Sketch, HOMES, SPANS[1:])
        self.assert_raises(BadSketch, (-1, "length"), Sketch, [], SPANS)
        self.assert_raises(BadSketch, (-1, "length"), Sketch, [()], [])
        self.assert_raises(BadSketch, (-1, "length"), Sketch, [(), (1, 0)], [(0, 0)])

    def test_homes(self):
        for homes in ((), (-1,), (-1, 0), (1, 0), (1, 1), (0, 2, 1), (0, 1, 1), (0, -1), (-2, -1)):
            self.assert_raises(BadSketch, (0, "homes"), Sketch, [homes], [(1, 1)])
            self.assert_raises(BadSketch, (2, "homes"), Sketch, [(0,), (1,), homes], [(1, 1)] * 3)

    def test_span(self):
        for span in ((0, 1), (-1, 3), (0, 0), (2, 1), (FAR, FAR - 1), (0, -1)):
            self.assert_raises(BadSketch, (0, "span"), Sketch, [(0,)], [span])
            self.assert_raises(BadSketch, (1, "span"), Sketch, [(0,)] * 3, [(1, 1), span, (1, 1)])

    def test_order_of_faults(self):
        self.assert_raises(BadSketch, (0, "homes"), Sketch, [(), (0,)], [(0, 0), (0, 0)])
        self.assert_raises(BadSketch, (0, "span"), Sketch, [(0,), ()], [(2, 1), (1, 1)])
        self.assert_raises(BadSketch, (1, "homes"), Sketch, [(0,), (2, 1), (0,)], [(1, 1), (2, 1), (0, 0)])


class TestNarrowed(Checks):

    def test_nothing_is_told(self):
        for bounds in ({}, {"homes": None, "least": None, "most": None}, {"most": None}):
            for family in range(3):
                self.assert_is(narrowed(family, **bounds), (tuple(HOMES), tuple(SPANS)))

    def test_homes(self):
        self.assert_is(narrowed(1, homes=(1, 3))[0], ((0,), (1, 3), (2,)))
        self.assert_is(narrowed(1, homes=(1, 2, 6))[0], ((0,), (1,), (2,)))
        self.assert_is(narrowed(1, homes=(0, 1, 2, 3))[0], tuple(HOMES))
        self.assert_is(narrowed(1, homes=(1, 3))[1], tuple(SPANS))

    def test_homes_in_any_order_and_twice(self):
        self.assert_is(narrowed(1, homes=(3, 0))[0], ((0,), (0, 3), (2,)))
        self.assert_is(narrowed(1, homes=(3, 1, 3, 5, 1))[0], ((0,), (1, 3), (2,)))
        self.assert_is(narrowed(0, homes=(0, 0))[0], tuple(HOMES))

    def test_no_home_is_left(self):
        sketch = Sketch(HOMES, SPANS)
        for homes in ((), (2,), (4, 5, 6), (2, 2)):
            self.assert_raises(BadSketch, (1, "homes"), lambda: sketch.narrowed(1, homes=homes))
        self.assert_raises(BadSketch, (0, "homes"), lambda: sketch.narrowed(0, homes=()))

    def test_bounds(self):
        self.assert_is(narrowed(1, least=3)[1], ((3, 3), (3, 4), (1, FAR)))
        self.assert_is(narrowed(1, most=3)[1], ((3, 3), (2, 3), (1, FAR)))
        self.assert_is(narrowed(1, least=4, most=4)[1], ((3, 3), (4, 4), (1, FAR)))
        self.assert_is(narrowed(2, least=FAR - 1)[1], ((3, 3), (2, 4), (FAR - 1, FAR)))
        self.assert_is(narrowed(1, most=3)[0], tuple(HOMES))

    def test_bounds_that_change_nothing(self):
        for least, most in ((0, 10 ** 20), (1, 5), (2, 4), (0, None), (None, 4)):
            self.assert_is(narrowed(1, least=least, most=most), (tuple(HOMES), tuple(SPANS)))

    def test_no_heads_are_left(self):
        sketch = Sketch(HOMES, SPANS)
        for bounds in ({"least": 5}, {"most": 1}, {"most": 0}, {"least": 4, "most": 3}, {"least": 0, "most": 0},
                       {"least": 10 ** 20}):
            self.assert_raises(BadSketch, (1, "span"), lambda: sketch.narrowed(1, **bounds))

    def test_homes_are_told_before_the_span(self):
        sketch = Sketch(HOMES, SPANS)
        self.assert_raises(BadSketch, (1, "homes"), lambda: sketch.narrowed(1, homes=(2,), least=9))
        self.assert_raises(BadSketch, (1, "homes"), lambda: sketch.narrowed(1, homes=(), most=0))

    def test_only_by_keyword(self):
        with self.assertRaises(TypeError):
            Sketch(HOMES, SPANS).narrowed(1, (0,))

    def test_the_sketch_stays_as_it_is(self):
        sketch = Sketch(HOMES, SPANS)
        more = sketch.narrowed(1, homes=(3, 1), least=3, most=3)
        self.assertIs(type(more), Sketch)
        self.assertIsNot(sketch.narrowed(1), sketch)
        self.assert_is(told(sketch), (tuple(HOMES), tuple(SPANS)))
        self.assert_is((sketch.many, more.many), (9 * FAR, 2 * FAR))
        self.assert_is(told(more.narrowed(2, most=5)), (((0,), (1, 3), (2,)), ((3, 3), (3, 3), (1, 5))))
