"""Point [2], last item: the errors, their base and their fields."""

from tests.checks import Checks
from villagelines import errors

FIELDS = {
    "BadRegion": ["line", "why"],
    "BadPlacing": ["family", "why"],
    "BadMove": ["at", "why"],
    "BadText": ["row", "why"],
    "BadDivision": ["why"],
    "BadSide": ["why"],
    "NoSuch": ["index", "size"],
    "BadSketch": ["family", "why"],
    "BadNeed": ["at", "why"],
    "BadNote": ["why"],
    "CannotBe": ["at"],
    "Unknown": ["word"],
    "Full": ["most"],
    "NothingLeft": ["word"],
    "RowRefused": ["row", "word"],
    "BadLimit": ["value"],
}


class TestErrors(Checks):

    def test_base_stands_directly_under_value_error(self):
        self.assertEqual(errors.VillageError.__bases__, (ValueError,))

    def test_each_stands_directly_under_the_base(self):
        for name in FIELDS:
            with self.subTest(name):
                self.assertEqual(getattr(errors, name).__bases__, (errors.VillageError,))

    def test_no_error_is_missing_or_too_many(self):
        found = [name for name, value in vars(errors).items() if isinstance(value, type)]
        self.assertEqual(sorted(found), sorted(["VillageError", *FIELDS]))

    def test_fields_in_the_order_of_the_arguments(self):
        for name, fields in FIELDS.items():
            with self.subTest(name):
                values = [f"value of {field}" for field in fields]
                error = getattr(errors, name)(*values)
                self.assertEqual(list(vars(error).items()), list(zip(fields, values)))

    def test_fields_by_name(self):
        for name, fields in FIELDS.items():
            with self.subTest(name):
                values = {field: at for at, field in enumerate(fields)}
                self.assertEqual(vars(getattr(errors, name)(**values)), values)

    def test_each_is_caught_as_the_base(self):
        for name, fields in FIELDS.items():
            with self.subTest(name), self.assertRaises(errors.VillageError):
                raise getattr(errors, name)(*fields)
