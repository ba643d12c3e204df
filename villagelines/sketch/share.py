"""The share of the worlds in which a question holds."""

from math import gcd

from villagelines.sketch.worlds import worlds_of
from villagelines.ways.ever import holds


def share_of(region, sketch, question):
    """The part of the worlds that fit in which the question holds, `(numerator, denominator)` in lowest terms."""
    answers = [holds(region, heads, placing, question) for heads, placing in worlds_of(sketch)]
    common = gcd(answers.count(True), len(answers))
    return answers.count(True) // common, len(answers) // common
