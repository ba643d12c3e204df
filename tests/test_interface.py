"""The interface: every name stands in its file, with its arguments and its kind."""

import inspect
from importlib import import_module

from tests.checks import Checks

FUNCTIONS = {
    "region.census": {
        "census_of": ["region", "heads", "placing"],
        "heads_in": ["census", "villages"],
        "running_lines": ["region", "census"],
        "require_world": ["region", "heads", "placing"],
    },
    "region.moves": {
        "fault_of_move": ["region", "heads", "placing", "move"],
        "moved": ["region", "heads", "placing", "move"],
        "moves_from": ["region", "heads", "placing"],
    },
    "region.walks": {
        "walk": ["region", "heads", "placing", "moves"],
        "trail": ["region", "heads", "placing", "moves"],
        "way_back": ["placing", "moves"],
    },
    "region.notation": {
        "write_region": ["region"],
        "write_moves": ["moves"],
        "read_region": ["text"],
        "read_moves": ["text"],
    },
    "lots.divisions": {
        "tidy": ["villages", "blocks"],
        "singles": ["villages"],
        "place_of": ["division", "village"],
        "touched_by": ["division", "stops"],
        "join_blocks": ["division", "places"],
        "divisions_of": ["villages"],
    },
    "lots.closing": {
        "lots_of": ["region", "census"],
        "joins_of": ["region", "census"],
        "lot_of": ["region", "census", "village"],
    },
    "lots.order": {
        "is_finer": ["one", "other"],
        "meet_of": ["one", "other"],
        "merge_of": ["one", "other"],
    },
    "lots.shut": {
        "leak_of": ["region", "census", "division"],
        "is_shut": ["region", "census", "division"],
        "is_shut_for_all": ["region", "census", "division", "villages"],
        "shut_divisions": ["region", "census"],
    },
    "lots.judge": {
        "fault_of_joins": ["region", "census", "row"],
    },
    "lots.settling": {
        "settled_placing": ["region", "heads", "placing"],
        "same_class": ["region", "heads", "one", "other"],
    },
    "lots.board": {
        "board_of": ["region", "heads", "placing"],
    },
    "ways.gathering": {
        "gathering": ["region", "heads", "placing", "village"],
    },
    "ways.papers": {
        "paper_of": ["region", "heads", "start", "goal"],
    },
    "ways.ever": {
        "can_live": ["region", "heads", "placing", "family"],
        "company_of": ["region", "heads", "placing", "family"],
        "heads_range": ["region", "heads", "placing", "village"],
        "fate_of": ["region", "heads", "placing", "line"],
        "holds": ["region", "heads", "placing", "question"],
    },
    "ways.wishes": {
        "wish_for": ["region", "heads", "placing", "wanted"],
    },
    "ways.heights": {
        "heights_of": ["region", "heads", "placing"],
        "fewest_moves": ["region", "heads", "start", "goal"],
        "shortest_way": ["region", "heads", "start", "goal"],
    },
    "least.stairs": {
        "staircase": ["region", "census", "village"],
    },
    "least.newcomers": {
        "newcomers_for": ["region", "census", "village", "one", "other"],
    },
    "least.pairs": {
        "least_pairs": ["region", "census", "first", "second", "one", "other"],
    },
    "least.slack": {
        "raised": ["region", "by"],
        "slack_of": ["region", "census", "one", "other"],
        "levels_of": ["region", "census"],
    },
    "least.discount": {
        "discount_for": ["region", "heads", "start", "goal"],
    },
    "books.answers": {
        "unanswered": ["region", "stops", "number"],
        "answers": ["region", "stops", "number"],
    },
    "books.parting": {
        "parting_of": ["one", "other"],
        "alike": ["regions"],
    },
    "books.thinning": {
        "needless": ["region"],
        "thinned": ["region"],
    },
    "books.table": {
        "least_number": ["region", "stops"],
        "table_of": ["region"],
        "book_of": ["villages", "rows"],
    },
    "books.stuck": {
        "stuck_census": ["region", "count"],
        "most_stuck": ["region"],
    },
    "sides.glue": {
        "glued": ["left", "right"],
    },
    "sides.response": {
        "nothing": ["count"],
        "lots_under": ["side", "outside"],
        "response": ["side", "outside"],
    },
    "sides.talk": {
        "talk": ["left", "right"],
        "glued_lots": ["left", "right"],
    },
    "sides.alike": {
        "first_difference": ["one", "other"],
        "parting_side": ["one", "other"],
    },
    "classes.members": {
        "members": ["region", "heads", "placing"],
        "class_size": ["region", "heads", "placing"],
    },
    "classes.ranking": {
        "rank_of": ["region", "heads", "placing"],
        "member_at": ["region", "heads", "placing", "index"],
    },
    "classes.listing": {
        "classes_of": ["region", "heads"],
        "frozen_count": ["region", "heads"],
    },
    "classes.fillings": {
        "fillings": ["region", "heads", "villages", "families"],
        "lot_fillings": ["region", "heads", "placing"],
    },
    "classes.spectrum": {
        "spectrum": ["region", "heads", "placing", "village"],
    },
    "sketch.worlds": {
        "worlds_of": ["sketch"],
    },
    "sketch.verdict": {
        "verdict": ["region", "sketch", "question"],
    },
    "sketch.share": {
        "share_of": ["region", "sketch", "question"],
    },
    "sketch.asking": {
        "asking": ["region", "sketch", "question"],
    },
    "years.diary": {
        "merged": ["villages", "diaries"],
        "started": ["villages", "families"],
    },
    "years.standing": {
        "standing": ["diary", "count"],
        "first_fault": ["diary"],
    },
    "years.history": {
        "history_of": ["diary"],
        "fault_of_history": ["diary", "history"],
    },
    "years.ask": {
        "ask": ["diary", "question"],
        "newcomers_now": ["diary", "village", "name", "other"],
        "possible_placings": ["diary"],
    },
    "ways.judge": {
        "fault_of_paper": ["region", "heads", "start", "goal", "paper"],
    },
    "needs.notation": {
        "write_need": ["need", "words"],
        "read_need": ["text", "words"],
    },
    "needs.wide": {
        "widened": ["region"],
        "crowds_of": ["region", "families", "placing"],
        "wide_lots": ["region", "crowds"],
        "wide_leak": ["region", "crowds", "division"],
    },
    "needs.papers": {
        "wide_paper": ["region", "families", "start", "goal"],
        "fault_of_wide_paper": ["region", "families", "start", "goal", "paper"],
    },
    "years.notation": {
        "read_note": ["text"],
    },
}

GENERATORS = ["moves_from", "trail", "divisions_of", "shut_divisions", "members", "worlds_of"]

WORDS = {"words": ["self"]}

METHODS = {
    ("region.book", "Region"): {
        "__init__": ["self", "villages", "lines"],
        "with_line": ["self", "stops", "number"],
        "without": ["self", "index"],
        "__len__": ["self"],
        "__iter__": ["self"],
        "__contains__": ["self", "line"],
        "__add__": ["self", "other"],
        "__eq__": ["self", "other"],
    },
    ("needs.need", "Need"): {
        "__init__": ["self", "kinds", "rows"],
        "implies": ["self", "other"],
        "__call__": ["self", "crowd"],
        "__and__": ["self", "other"],
        "__or__": ["self", "other"],
        "__eq__": ["self", "other"],
    },
    ("needs.wide", "WideRegion"): {
        "__init__": ["self", "villages", "kinds", "lines"],
    },
    ("sides.side", "Side"): {
        "__init__": ["self", "region", "census", "gates"],
    },
    ("sketch.sketch", "Sketch"): {
        "__init__": ["self", "homes", "spans"],
        "narrowed": ["self", "family", "homes", "least", "most"],
    },
    ("years.diary", "Diary"): {
        "__init__": ["self", "villages"],
        "__len__": ["self"],
        "tell": ["self", "note"],
        "drop": ["self", "index"],
    },
    ("desk.desk", "Desk"): {
        "__init__": ["self", "villages", "limit"],
        "__len__": ["self"],
        "say": ["self", "row"],
        "run": ["self", "text"],
        "tried": ["self", "text"],
        "set_limit": ["self", "value"],
    },
    ("years.notes", "Note"): {
        "__init__": ["self", "moment"],
        "words": ["self"],
        "text": ["self"],
        "__eq__": ["self", "other"],
    },
    ("years.notes", "Come"): WORDS,
    ("years.notes", "Leave"): WORDS,
    ("years.notes", "Seen"): WORDS,
    ("years.notes", "Opened"): WORDS,
    ("years.notes", "Closed"): WORDS,
    ("years.notes", "Ran"): WORDS,
    ("years.notes", "Stood"): WORDS,
    ("years.notes", "Counted"): WORDS,
}

PROPERTIES = {
    ("region.book", "Region"): ["greatest"],
    ("sketch.sketch", "Sketch"): ["many"],
    ("years.diary", "Diary"): ["notes"],
    ("desk.desk", "Desk"): ["fault", "limit", "texts"],
}

NOTES = {
    "Note": ["moment"],
    "FamilyNote": ["moment", "name"],
    "VillageNote": ["moment", "village"],
    "LineNote": ["moment", "line"],
    "Come": ["moment", "name", "heads", "village"],
    "Leave": ["moment", "name", "village"],
    "Seen": ["moment", "name", "village"],
    "Opened": ["moment", "line", "number", "stops"],
    "Closed": ["moment", "line"],
    "Ran": ["moment", "line"],
    "Stood": ["moment", "line"],
    "Counted": ["moment", "heads", "village"],
}


def module(name):
    return import_module(f"villagelines.{name}")


def arguments(function):
    return list(inspect.signature(function).parameters)


class TestInterface(Checks):

    def test_functions_are_defined_in_their_files(self):
        for place, functions in FUNCTIONS.items():
            for name, wanted in functions.items():
                with self.subTest(place=place, name=name):
                    function = vars(module(place))[name]
                    self.assertEqual(function.__module__, f"villagelines.{place}")
                    self.assertEqual(arguments(function), wanted)
                    self.assertEqual(inspect.isgeneratorfunction(function), name in GENERATORS)

    def test_methods_are_defined_in_the_class_itself(self):
        for (place, name), methods in METHODS.items():
            own = vars(module(place))[name]
            self.assertEqual(own.__module__, f"villagelines.{place}")
            for method, wanted in methods.items():
                with self.subTest(name=name, method=method):
                    self.assertEqual(arguments(vars(own)[method]), wanted)

    def test_makers_are_of_their_kind(self):
        region = module("region.book").Region
        self.assertIsInstance(vars(region)["bare"], classmethod)
        self.assertEqual(arguments(region.bare), ["villages"])
        need = module("needs.need").Need
        self.assertIsInstance(vars(need)["of"], staticmethod)
        self.assertEqual(arguments(need.of), ["kinds", "kind", "number"])
        diary = module("years.diary").Diary
        self.assertIsInstance(vars(diary)["of"], classmethod)
        self.assertEqual(arguments(diary.of), ["villages", "notes"])

    def test_properties(self):
        for (place, name), properties in PROPERTIES.items():
            own = vars(vars(module(place))[name])
            found = [word for word, value in own.items() if isinstance(value, property)]
            self.assertEqual(sorted(found), properties)

    def test_defaults(self):
        standing, desk = module("years.standing").standing, module("desk.desk").Desk
        self.assertIsNone(inspect.signature(standing).parameters["count"].default)
        self.assertEqual(inspect.signature(desk).parameters["limit"].default, 10)
        narrowed = inspect.signature(module("sketch.sketch").Sketch.narrowed).parameters
        for name in ("homes", "least", "most"):
            self.assertIs(narrowed[name].kind, inspect.Parameter.KEYWORD_ONLY)
            self.assertIsNone(narrowed[name].default)

    def test_notes_are_defined_in_their_file_with_their_arguments(self):
        for name, wanted in NOTES.items():
            with self.subTest(name=name):
                own = vars(module("years.notes"))[name]
                self.assertEqual(own.__module__, "villagelines.years.notes")
                self.assertEqual(arguments(own), wanted)
