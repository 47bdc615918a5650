"""[4]: errors."""

import unittest

from anypasses.errors import (InvalidCommand, InvalidModule, InvalidQuestion, InvalidStep, InvalidText, PassError,
                              Refused)

WITH_PLACE = (InvalidText, InvalidModule, InvalidStep, InvalidQuestion, Refused)


class Errors(unittest.TestCase):
    def test_what_they_derive_from(self):
        self.assertEqual(PassError.__bases__, (ValueError,))
        for kind in WITH_PLACE + (InvalidCommand,):
            self.assertEqual(kind.__bases__, (PassError,))

    def test_none_is_another_one(self):
        kinds = WITH_PLACE + (InvalidCommand,)
        for one in kinds:
            for other in kinds:
                self.assertEqual(issubclass(one, other), one == other)

    def test_what_is_kept(self):
        thing = [1]
        for kind in WITH_PLACE:
            for at in (0, 7, None, True, "x", (1, 2), 10 ** 5000):
                self.assertEqual(kind(at).at, at)
                self.assertEqual(kind(at=at).at, at)
            self.assertIs(kind(thing).at, thing)
            with self.assertRaises(TypeError):
                kind()

    def test_command(self):
        with self.assertRaises(PassError):
            raise InvalidCommand()
        self.assertFalse(hasattr(InvalidCommand(), "at"))

    def test_caught_as_value_errors(self):
        for kind in WITH_PLACE:
            with self.assertRaises(ValueError) as caught:
                raise kind(3)
            self.assertEqual(caught.exception.at, 3)


if __name__ == "__main__":
    unittest.main()
