"""Point 2 and the interface of errors.py."""

import importlib
import pkgutil
import unittest

import turnsandthrows
from turnsandthrows import errors

WITH_MESSAGE = (
    "InvalidMachine", "LettersDiffer", "TooManyStates", "InvalidLines", "InvalidName", "DuplicateName",
    "UnknownName", "NameInUse", "CircularDefinition", "NotOwn", "InvalidEdit",
)


class ErrorsTest(unittest.TestCase):
    def test_machine_error_is_a_value_error(self):
        self.assertEqual(errors.MachineError.__bases__, (ValueError,))

    def test_each_error_is_directly_a_machine_error(self):
        for name in WITH_MESSAGE + ("GoesRound", "SyntaxFault"):
            with self.subTest(name):
                self.assertEqual(getattr(errors, name).__bases__, (errors.MachineError,))

    def test_only_machine_error_has_subclasses(self):
        for module in pkgutil.walk_packages(turnsandthrows.__path__, "turnsandthrows."):
            if not module.name.endswith("__main__"):
                importlib.import_module(module.name)
        below = errors.MachineError.__subclasses__()
        self.assertEqual({error.__name__ for error in below}, {*WITH_MESSAGE, "GoesRound", "SyntaxFault"})
        self.assertEqual([error for error in below if error.__subclasses__()], [])

    def test_made_with_one_message(self):
        for name in WITH_MESSAGE:
            with self.subTest(name):
                error = getattr(errors, name)("what is wrong")
                self.assertEqual(str(error), "what is wrong")
                with self.assertRaises(errors.MachineError):
                    raise error

    def test_goes_round_has_its_ring(self):
        ring = ("ab", (0, 2))
        self.assertEqual(errors.GoesRound(ring).ring, ring)
        with self.assertRaises(errors.MachineError):
            raise errors.GoesRound(ring)

    def test_syntax_fault_has_its_column(self):
        self.assertEqual(errors.SyntaxFault(17).column, 17)
        with self.assertRaises(ValueError):
            raise errors.SyntaxFault(1)


if __name__ == "__main__":
    unittest.main()
