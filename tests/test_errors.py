"""[4] and [20]: the error classes."""

import unittest

import openlanes.errors as errors
from tests.helpers import ERRORS, ODD, STRANGE

FIELDS = {
    "Wrong": ["place"], "NoLane": ["lane"], "Shut": ["word", "lane"], "NoPlace": ["place"], "NoArm": ["index"],
    "TwoElse": ["place"], "Refused": ["what"], "NoKind": ["kind"], "NoSeat": ["place"], "Stopped": ["index"],
    "TooMany": ["most"], "Full": [], "Nothing": [], "NoEntry": ["many"], "NoText": [], "NoCommand": [],
}


class ErrorsTest(unittest.TestCase):
    def test_there_are_just_these_classes(self):
        self.assertEqual(sorted(c.__name__ for c in ERRORS), sorted(["LaneError", *FIELDS]))

    def test_each_is_a_direct_subclass_of_lane_error_alone(self):
        self.assertEqual(errors.LaneError.__bases__, (ValueError,))
        for name in FIELDS:
            self.assertEqual(getattr(errors, name).__bases__, (errors.LaneError,), name)

    def test_each_keeps_the_objects_themselves(self):
        for name, fields in FIELDS.items():
            for thing in [*STRANGE, [1], "free", 3]:
                things = [thing, ODD][:len(fields)]
                error = getattr(errors, name)(*things)
                self.assertEqual(list(vars(error)), fields)
                for field, kept in zip(fields, things):
                    self.assertIs(getattr(error, field), kept)

    def test_what_is_kept_is_not_copied(self):
        row = [1]
        error = errors.Refused(row)
        row.append(2)
        self.assertEqual(error.what, [1, 2])

    def test_arguments_may_be_passed_by_their_names(self):
        for name, fields in FIELDS.items():
            error = getattr(errors, name)(**{field: ODD for field in fields})
            self.assertEqual(vars(error), {field: ODD for field in fields})

    def test_more_or_fewer_arguments_are_not_taken(self):
        for name, fields in FIELDS.items():
            with self.assertRaises(TypeError):
                getattr(errors, name)(*[0] * (len(fields) + 1))
            if fields:
                with self.assertRaises(TypeError):
                    getattr(errors, name)(*[0] * (len(fields) - 1))

    def test_each_can_be_raised_and_caught_by_its_name_and_as_a_value_error(self):
        for name, fields in FIELDS.items():
            for caught in (getattr(errors, name), errors.LaneError, ValueError):
                with self.assertRaises(caught):
                    raise getattr(errors, name)(*[7] * len(fields))


if __name__ == "__main__":
    unittest.main()
