import unittest

from fivecups.errors import BadText, CupError, NoDance, NoName, NoRing, NoRow, OtherSizes, TooHeavy

FIELDS = (
    (BadText, ("row",)),
    (NoDance, ("word", "at")),
    (NoRing, ()),
    (TooHeavy, ("weight",)),
    (OtherSizes, ()),
    (NoName, ("name",)),
    (NoRow, ()),
)
THINGS = (-(10**40), -1, 0, 1, 7, 129, 10**40, "", "yes", "a b\nc", None, (1, "x"))


def made_of(kind, fields, at):
    return kind(*[THINGS[(at + k) % len(THINGS)] for k in range(len(fields))])


class ErrorsTest(unittest.TestCase):
    def test_cup_error_is_a_value_error(self):
        self.assertEqual(CupError.__bases__, (ValueError,))

    def test_each_stands_right_under_cup_error(self):
        for kind, fields in FIELDS:
            self.assertEqual(kind.__bases__, (CupError,))

    def test_each_is_itself_and_none_of_the_others(self):
        for kind, fields in FIELDS:
            error = made_of(kind, fields, 0)
            self.assertIsInstance(error, CupError)
            self.assertIsInstance(error, ValueError)
            self.assertEqual([other for other, names in FIELDS if isinstance(error, other)], [kind])

    def test_each_is_raised_and_taken_by_its_name(self):
        for kind, fields in FIELDS:
            with self.assertRaises(kind):
                raise made_of(kind, fields, 3)

    def test_fields_hold_what_was_handed_in(self):
        for kind, fields in FIELDS:
            for at in range(len(THINGS)):
                error = made_of(kind, fields, at)
                for k, name in enumerate(fields):
                    self.assertIs(getattr(error, name), THINGS[(at + k) % len(THINGS)])

    def test_what_was_handed_in_is_not_changed(self):
        thing = [1, [2]]
        error = NoName(thing)
        self.assertIs(error.name, thing)
        self.assertEqual(thing, [1, [2]])

    def test_those_made_ahead_keep_their_own(self):
        for kind, fields in FIELDS:
            errors = [made_of(kind, fields, at) for at in range(len(THINGS))]
            for at, error in enumerate(errors):
                for k, name in enumerate(fields):
                    self.assertEqual(getattr(error, name), THINGS[(at + k) % len(THINGS)])


if __name__ == "__main__":
    unittest.main()
