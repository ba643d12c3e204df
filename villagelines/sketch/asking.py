"""Which families to ask for, so that a question is settled."""

from villagelines.sets import sets_from
from villagelines.sketch.worlds import worlds_of
from villagelines.ways.ever import holds


def _settle(families, answers):
    """True if worlds that agree in these families have the same answer; each answer is `(world, yes)`."""
    answer_by = {}
    for (heads, placing), answer in answers:
        known = tuple([(placing[family], heads[family]) for family in families])
        if answer_by.setdefault(known, answer) != answer:
            return False
    return True


def asking(region, sketch, question):
    """The smallest list of families whose homes and heads settle the question."""
    answers = [((heads, placing), holds(region, heads, placing, question)) for heads, placing in worlds_of(sketch)]
    settling = [families for families in sets_from(0, len(sketch.homes)) if _settle(families, answers)]
    return list(settling[0])
