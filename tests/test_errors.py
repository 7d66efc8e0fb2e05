"""Points 4 and 6: the errors, their base class and their fields."""

from everybowl import errors
from everybowl.errors import BowlError
from tests.helpers import Case

FIELDS = {
    "WrongCount": ("count",), "TooFar": ("value",), "ZeroBottom": (), "NoPoint": ("number",),
    "Repeated": ("number",), "NoSize": ("size",), "OnLine": ("numbers",), "OnPlane": ("numbers",),
    "NotBowl": ("triangle", "number"), "OtherFloor": (), "Within": ("triangle",),
    "NotTouched": ("triangle",), "Barred": ("four",), "Crossed": ("four",), "Tied": ("pair",),
    "Meets": ("other",), "NoForm": ("form",), "WrongRow": ("form",), "WrongTurning": ("place",),
    "WrongLine": ("line",), "TooMany": ("limit",), "NothingDone": (), "NothingUndone": (),
    "Refused": ("place",),
}
LONG = 7 * 10 ** 6000


class Errors(Case):
    def test_base(self):
        self.assertIs(BowlError.__base__, ValueError)
        self.assertEqual(BowlError.__bases__, (ValueError,))

    def test_every_class_is_a_direct_subclass(self):
        self.assertEqual(len(FIELDS), 24)
        for name in FIELDS:
            self.assertEqual(getattr(errors, name).__bases__, (BowlError,), name)

    def test_there_are_no_others(self):
        found = [name for name, thing in vars(errors).items() if isinstance(thing, type)]
        self.assertEqual(sorted(found), sorted([*FIELDS, "BowlError"]))

    def test_fields_by_position(self):
        for name, fields in FIELDS.items():
            values = [(3, 4, place) for place in range(len(fields))]
            error = getattr(errors, name)(*values)
            self.assertEqual(vars(error), dict(zip(fields, values)), name)

    def test_fields_of_any_size(self):
        for name, fields in FIELDS.items():
            error = getattr(errors, name)(*[LONG + place for place in range(len(fields))])
            for place, field in enumerate(fields):
                self.assertTrue(getattr(error, field) == LONG + place, name)

    def test_each_can_be_caught_by_itself_and_by_its_base(self):
        for name, fields in FIELDS.items():
            error = getattr(errors, name)
            for caught in (error, BowlError, ValueError):
                with self.assertRaises(caught):
                    raise error(*[LONG for _ in fields])
