"""Diaries for the tests, and what their stories are, found by making all moves.

Homes are a tuple of pairs `(name, village)`, ascending.
"""

from itertools import product
from random import Random

from villagelines.years.diary import Diary
from villagelines.years.notes import Closed, Come, Counted, Leave, Opened, Ran, Seen, Stood


class Seat:
    """What follows from some notes alone (heads by name, lines by name), and all homes that can be after them."""

    def __init__(self, heads, lines, homes):
        self.heads = heads
        self.lines = lines
        self.homes = homes


def heads_at(heads, homes, villages):
    return sum(heads[name] for name, village in homes if village in villages)


def runs(seat, homes, line):
    stops, number = seat.lines[line]
    return heads_at(seat.heads, homes, stops) >= number


def moves_on(seat, homes):
    """All homes that one move makes of these."""
    for line, (stops, _) in seat.lines.items():
        if runs(seat, homes, line):
            for name, village in homes:
                for stop in stops:
                    if village in stops and stop != village:
                        yield tuple(sorted({**dict(homes), name: stop}.items()))


def reached(seat, some):
    """All homes that any moves make of some."""
    found, waiting = set(some), list(some)
    while waiting:
        for homes in moves_on(seat, waiting.pop()):
            if homes not in found:
                found.add(homes)
                waiting.append(homes)
    return found


def can_happen(seat, homes, note):
    """True if the note can happen while the families live so, by the words of the document."""
    if isinstance(note, Come):
        return note.name not in seat.heads
    if isinstance(note, (Leave, Seen)):
        return (note.name, note.village) in homes
    if isinstance(note, Opened):
        return note.line not in seat.lines
    if isinstance(note, Closed):
        return note.line in seat.lines
    if isinstance(note, (Ran, Stood)):
        return note.line in seat.lines and runs(seat, homes, note.line) is isinstance(note, Ran)
    return heads_at(seat.heads, homes, [note.village]) == note.heads


def homes_after(homes, note):
    """The homes that the note makes of these."""
    if isinstance(note, Come):
        return tuple(sorted((*homes, (note.name, note.village))))
    if isinstance(note, Leave):
        return tuple(pair for pair in homes if pair[0] != note.name)
    return homes


def seat_after(seat, note):
    """What is after the note, without moves, or None if it cannot happen."""
    happening = [homes for homes in seat.homes if can_happen(seat, homes, note)]
    if not happening:
        return None
    heads, lines = dict(seat.heads), dict(seat.lines)
    if isinstance(note, Come):
        heads[note.name] = note.heads
    if isinstance(note, Leave):
        del heads[note.name]
    if isinstance(note, Opened):
        lines[note.line] = (note.stops, note.number)
    if isinstance(note, Closed):
        del lines[note.line]
    return Seat(heads, lines, {homes_after(homes, note) for homes in happening})


def seats_of(diary):
    """What is before the first note and after each note, as far as there are stories."""
    seats = [Seat({}, {}, {()})]
    for note in diary.notes:
        after = seat_after(seats[-1], note)
        if after is None:
            return seats
        after.homes = reached(after, after.homes)
        seats.append(after)
    return seats


def fault_by_moves(diary):
    """The first fault of the diary, or None."""
    seats = seats_of(diary)
    return None if len(seats) > len(diary) else len(seats) - 1


def villages_of(homes):
    return tuple(village for _, village in homes)


def classes_in(seat):
    """The homes that can be, one set for each class."""
    left, classes = set(seat.homes), []
    while left:
        classes.append(reached(seat, [next(iter(left))]))
        left -= classes[-1]
    return classes


# All notes of one moment about two families, one line and two villages.
SHORT_NOTES = [
    Come(0, "ann", 1, 0), Come(0, "ann", 2, 1), Come(0, "bob", 2, 1), Leave(0, "ann", 0), Leave(0, "ann", 1),
    Leave(0, "bob", 0), Seen(0, "ann", 1), Seen(0, "bob", 0), Opened(0, "red", 2, (0, 1)), Closed(0, "red"),
    Ran(0, "red"), Stood(0, "red"), Counted(0, 1, 0), Counted(0, 0, 1),
]
BEGUN = [Come(0, "ann", 1, 0), Come(0, "bob", 2, 1), Opened(0, "red", 3, (0, 1))]
SHORT = [Diary.of(2, *notes) for notes in product(SHORT_NOTES, repeat=2)]
SHORT += [Diary.of(2, *BEGUN, *notes) for notes in product(SHORT_NOTES, repeat=2)]

# Many villages go with few notes of coming families.
COMES = {1: 6, 2: 4, 3: 3, 4: 2, 5: 2}


def any_note(draw, villages, moment):
    """Some note, drawn so that a few families and lines are named again and again."""
    name, line = draw.choice(["ann", "bob", "cid", "dan", "eve"]), draw.choice(["red", "sea", "tin"])
    village = draw.randrange(villages)
    kind = draw.choice([Come, Come, Come, Leave, Seen, Opened, Opened, Opened, Closed, Closed, Ran, Stood, Counted])
    if kind is Come:
        return Come(moment, name, draw.choice([1, 2, 3]), village)
    if kind in (Leave, Seen):
        return kind(moment, name, village)
    if kind is Opened:
        stops = sorted(draw.sample(range(villages), draw.randint(2, villages)))
        return Opened(moment, line, draw.choice([1, 2, 3, 4, 5]), tuple(stops))
    if kind is Counted:
        return Counted(moment, draw.choice([0, 1, 2, 3, 5]), village)
    return kind(moment, line)


def drawn_diary(seed):
    """Some diary, most of which can be: a note that cannot happen is mostly left out."""
    draw = Random(seed)
    villages = draw.choice([2, 2, 3, 3, 3, 4, 5])
    notes = []
    for moment in range(60):
        note = any_note(draw, villages, moment // 3)
        kinds = [type(told) for told in [*notes, note]]
        told = Diary.of(villages, *notes, note)
        if (kinds.count(Come) <= COMES[villages] and kinds.count(Opened) <= 4 and len(told) <= 10
                and (fault_by_moves(told) is None or draw.random() < 0.02)):
            notes.append(note)
    return Diary.of(villages, *notes)


def first_notes(diary, count):
    """The diary with the first notes of this one alone."""
    return Diary.of(diary.villages, *diary.notes[:count])


LONG = [drawn_diary(seed) for seed in range(120)]
DRAWN = [first_notes(diary, count) for diary in LONG for count in (6, 8, 10)]
DIARIES = SHORT + DRAWN
ABLE = [diary for diary in DIARIES if fault_by_moves(diary) is None]
UNABLE = [diary for diary in DIARIES if fault_by_moves(diary) is not None]
