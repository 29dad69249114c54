import unittest

from eachcut import errors
from eachcut.errors import CutError

PARAMETERS = {
    "BadTable": "thing", "BadKind": "thing", "BadPair": "thing", "BadLine": "at", "BadHistory": "thing",
    "BadTransaction": "thing", "BadCut": "thing", "BadOrder": "thing", "BadWord": "thing", "BadSteps": "thing",
    "BadStore": "thing", "BadPrograms": "thing", "BadSort": "thing", "BadState": "thing", "BadRun": "thing",
    "NotRight": "certificate", "IsRight": "p", "BadRow": "thing", "BadText": "thing", "BadDevice": "thing",
    "BadLost": "thing", "BadPages": "thing", "BadKey": "thing", "BadWorth": "thing", "BadNumber": "thing",
    "BadOperation": "thing", "BadOp": "thing", "BadEnd": "thing", "BadEngine": "thing", "BadStep": "thing",
    "NotShown": "key",
}
PLAIN = ("NotStrict", "Down", "Up", "NothingToUndo", "NothingToRedo")
VALUES = (0, -5, True, None, "", "any text", (), (1, ("a",)), [1, [2]], {"a": [1]}, CutError(), errors.BadLine(3))


class TestErrors(unittest.TestCase):
    def test_all_are_direct_subclasses(self):
        self.assertEqual((Exception,), CutError.__bases__)
        for name in tuple(PARAMETERS) + PLAIN:
            found = getattr(errors, name)
            self.assertEqual((CutError,), found.__bases__, name)
            self.assertEqual((name, "eachcut.errors"), (found.__name__, found.__module__))

    def test_no_other_errors(self):
        found = [name for name, value in vars(errors).items() if isinstance(value, type)]
        self.assertEqual(sorted(("CutError",) + tuple(PARAMETERS) + PLAIN), sorted(found))

    def test_none_is_a_subclass_of_another(self):
        classes = [getattr(errors, name) for name in tuple(PARAMETERS) + PLAIN]
        for one in classes:
            self.assertEqual([one], [other for other in classes if issubclass(one, other)])

    def test_parameters_are_attributes(self):
        for name, parameter in PARAMETERS.items():
            for value in VALUES:
                by_position = getattr(errors, name)(value)
                by_name = getattr(errors, name)(**{parameter: value})
                self.assertIs(value, getattr(by_position, parameter))
                self.assertIs(value, getattr(by_name, parameter))

    def test_parameters_are_required(self):
        for name in PARAMETERS:
            with self.assertRaises(TypeError):
                getattr(errors, name)()

    def test_each_is_caught_as_cut_error(self):
        for name in PARAMETERS:
            with self.assertRaises(CutError):
                raise getattr(errors, name)(1)
        for name in PLAIN:
            with self.assertRaises(CutError):
                raise getattr(errors, name)()


if __name__ == "__main__":
    unittest.main()
