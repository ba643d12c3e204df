"""Worlds of a diary: which families are present, where they live, and which lines are open."""

from villagelines.lots.settling import settled_placing
from villagelines.region.book import Region


class World:
    """A world by its names: heads and homes of the families, and the lines in the order of opening."""

    def __init__(self, villages, heads_of, home_of, line_of):
        self.villages = villages
        self.heads_of = heads_of
        self.home_of = home_of
        self.line_of = line_of
        self.names = sorted(list(heads_of))
        self.heads = [heads_of[name] for name in self.names]
        self.placing = [home_of[name] for name in self.names]
        self.region = Region(villages, list(line_of.values()))

    def placed(self, placing):
        """The world with its families in these villages."""
        return World(self.villages, self.heads_of, dict(zip(self.names, placing)), self.line_of)

    def settled(self):
        """The world with its families settled."""
        return self.placed(settled_placing(self.region, self.heads, self.placing))

    def entry(self):
        """The pairs `(name, village)` of a history, ascending."""
        return list(zip(self.names, self.placing))


def empty_world(villages):
    """The world in which every story begins."""
    return World(villages, {}, {}, {})
