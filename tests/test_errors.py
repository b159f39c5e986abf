import inspect
import unittest

from keptacross import errors

ARGUMENTS = {
    "BadMap": "pairs", "BadTongue": "word", "BadStyle": "word", "BadTerm": "word", "BadBook": "word",
    "BadRoad": "number", "BadText": "number", "BadReading": "number", "BadPage": "number", "BadLine": "line word",
    "BadTurners": "number", "BadRow": "number", "BadRules": "number", "BadSight": "sight", "BadLot": "lot",
    "BadWant": "want", "BadWeb": "word", "BadJourney": "number", "BadChange": "change", "BadMenu": "number",
    "BadWork": "number", "BadLinks": "word", "NoTerm": "name", "NoPlace": "place", "NoState": "number",
    "NoSource": "page", "NoText": "number", "NoHouse": "name", "NoWord": "word", "NoBook": "number",
    "Foreign": "word", "Unlike": "word", "Unsettled": "page", "TooMany": "word",
}


class Errors(unittest.TestCase):
    def test_each_is_directly_under_the_base_class(self):
        self.assertEqual(errors.AcrossError.__bases__, (ValueError,))
        for name in ARGUMENTS:
            with self.subTest(name=name):
                self.assertEqual(getattr(errors, name).__bases__, (errors.AcrossError,))

    def test_there_are_no_others(self):
        found = {name for name, thing in vars(errors).items() if inspect.isclass(thing)}
        self.assertEqual(found, set(ARGUMENTS) | {"AcrossError"})

    def test_each_keeps_its_arguments_as_they_were_passed(self):
        for name, told in ARGUMENTS.items():
            with self.subTest(name=name):
                things = [[k, ["deep"]] for k, _ in enumerate(told.split())]
                error = getattr(errors, name)(*things)
                for thing, attribute in zip(things, told.split()):
                    self.assertIs(getattr(error, attribute), thing)
                keywords = dict(zip(told.split(), things))
                self.assertEqual(vars(getattr(errors, name)(**keywords)), keywords)

    def test_each_has_a_message(self):
        for name, told in ARGUMENTS.items():
            error = getattr(errors, name)(*told.split())
            self.assertIn(told.split()[0], str(error))


if __name__ == "__main__":
    unittest.main()
