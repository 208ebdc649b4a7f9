import unittest

from pushalike import errors
from tests.samples import junk

MESSAGES = (
    "InvalidLayout InvalidTape InvalidPipeline InvalidState InvalidBounds InvalidStand InvalidPaper InvalidChain "
    "InvalidOperation"
).split()
VALUES = {
    "ParseError": (errors.PushError, "index"),
    "UnknownName": (KeyError, "name"),
    "UnknownIndex": (IndexError, "index"),
    "NothingToUndo": (LookupError, "many"),
    "TooMany": (OverflowError, "limit"),
    "InvalidNumber": (RuntimeError, "value"),
}


class Errors(unittest.TestCase):
    def test_push_error_is_a_value_error(self):
        self.assertEqual(errors.PushError.__bases__, (ValueError,))
        self.assertEqual(str(errors.PushError("so")), "so")

    def test_those_with_a_message_are_push_errors(self):
        for name in MESSAGES:
            made = getattr(errors, name)
            self.assertEqual(made.__bases__, (errors.PushError,), name)
            with self.assertRaises(errors.PushError):
                raise made("a message")

    def test_those_with_a_value_have_the_base_of_the_document(self):
        for name, (base, _) in VALUES.items():
            self.assertEqual(getattr(errors, name).__bases__, (base,), name)

    def test_no_other_error_class_of_the_program_is_above(self):
        names = ["PushError"] + MESSAGES + list(VALUES)
        for name in names:
            above = [other for other in names if other != name and issubclass(getattr(errors, name), getattr(errors, other))]
            push = name in MESSAGES or name == "ParseError"
            self.assertEqual(above, ["PushError"] if push else [], name)

    def test_a_value_is_kept_whatever_it_is(self):
        for name, (_, attribute) in VALUES.items():
            for value in junk():
                self.assertIs(getattr(getattr(errors, name)(value), attribute), value)

    def test_a_value_may_be_passed_by_its_name(self):
        self.assertEqual(errors.ParseError(index=3).index, 3)
        self.assertEqual(errors.UnknownName(name="s").name, "s")
        self.assertEqual(errors.UnknownIndex(index=(0,)).index, (0,))
        self.assertEqual(errors.NothingToUndo(many=2).many, 2)
        self.assertEqual(errors.TooMany(limit=900).limit, 900)
        self.assertEqual(errors.InvalidNumber(value=None).value, None)

    def test_they_can_be_raised_and_caught(self):
        for name in VALUES:
            with self.assertRaises(getattr(errors, name)) as caught:
                raise getattr(errors, name)((1, 2))
            self.assertEqual(getattr(caught.exception, VALUES[name][1]), (1, 2))
