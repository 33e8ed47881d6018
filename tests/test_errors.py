"""The errors: promises [3] and [4], and their list in the interface."""

import operator
import unittest

from labelroads import errors
from labelroads.errors import BadLine, BadNet, NetError, OtherNet, TooGreat
from tests.samples import WRONG

FIELDS = {
    "BadNet": ("place",),
    "BadNumber": ("value",),
    "BadRoad": ("value",),
    "BadHead": ("value",),
    "BadFailed": ("value",),
    "BadParcel": ("value",),
    "BadChoices": ("place",),
    "BadShape": ("value",),
    "BadGoal": ("value",),
    "BadPaper": ("word",),
    "OtherNet": (),
    "BadEntries": ("place",),
    "BadLine": ("line", "word"),
}
SIGNS = (
    operator.add,
    operator.sub,
    operator.mul,
    operator.floordiv,
    operator.mod,
    operator.pow,
    operator.and_,
    operator.or_,
    operator.xor,
    operator.lshift,
    operator.rshift,
    operator.lt,
    operator.le,
    operator.gt,
    operator.ge,
)


def classes():
    """Each error class with a field, beside its fields."""
    found = [(getattr(errors, name), fields) for name, fields in FIELDS.items()]
    return [*found, (TooGreat, ("most",))]


class Bases(unittest.TestCase):
    def test_of_net_error(self):
        self.assertEqual(NetError.__bases__, (ValueError,))

    def test_of_too_great(self):
        self.assertEqual(TooGreat.__bases__, (OverflowError,))

    def test_of_all_others(self):
        for name in FIELDS:
            self.assertEqual(getattr(errors, name).__bases__, (NetError,), name)

    def test_all_are_defined_in_their_file(self):
        for name in ("NetError", "TooGreat", *FIELDS):
            self.assertEqual(getattr(errors, name).__module__, "labelroads.errors")

    def test_there_are_no_others(self):
        listed = {"NetError", "TooGreat", *FIELDS}
        found = {name for name, value in vars(errors).items() if isinstance(value, type)}
        self.assertEqual(found, listed)


class Fields(unittest.TestCase):
    def test_by_position(self):
        for kind, fields in classes():
            values = [("told", place) for place in range(len(fields))]
            made = kind(*values)
            self.assertEqual([getattr(made, field) for field in fields], values, kind)

    def test_by_name(self):
        for kind, fields in classes():
            values = {field: ("told", field) for field in reversed(fields)}
            made = kind(**values)
            self.assertEqual({field: getattr(made, field) for field in fields}, values, kind)

    def test_there_are_no_other_attributes(self):
        for kind, fields in classes():
            made = kind(*range(len(fields)))
            self.assertEqual(tuple(vars(made)), fields)

    def test_a_field_is_needed(self):
        for kind, fields in classes():
            if fields:
                self.assertRaises(TypeError, kind)
        self.assertRaises(TypeError, BadLine, 1)

    def test_any_value_is_kept_as_it_is(self):
        for kind, fields in classes():
            for value in WRONG:
                made = kind(*[value for field in fields])
                for field in fields:
                    self.assertIs(getattr(made, field), value)

    def test_other_net_is_made_without_fields(self):
        self.assertEqual(vars(OtherNet()), {})

    def test_net_error_can_be_caught_as_value_error(self):
        for kind, fields in classes():
            base = OverflowError if kind is TooGreat else ValueError
            with self.assertRaises(base):
                raise kind(*fields)


class Operators(unittest.TestCase):
    def test_signs_raise(self):
        for kind, fields in classes():
            made = kind(*fields)
            for sign in SIGNS:
                for other in (0, "a", b"a", None, (), [], {}, kind(*fields)):
                    self.assertRaises(TypeError, sign, made, other)
                    if not (sign is operator.mod and isinstance(other, (str, bytes))):
                        self.assertRaises(TypeError, sign, other, made)

    def test_signs_with_one_side_raise(self):
        for kind, fields in classes():
            for sign in (operator.neg, operator.pos, operator.invert, len, iter):
                self.assertRaises(TypeError, sign, kind(*fields))

    def test_equality_does_not(self):
        for kind, fields in classes():
            made = kind(*fields)
            for other in (0, "a", None, (), [], {}, "place", ValueError("place")):
                self.assertIs(made == other, False)
                self.assertIs(made != other, True)

    def test_errors_are_keys(self):
        made = BadNet(("rows",))
        self.assertIn(made, {made: True})


if __name__ == "__main__":
    unittest.main()
