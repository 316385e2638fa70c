import unittest

from lotsayings import errors

WITH_ARGUMENT = {
    "BadWeb": "which", "BadBench": "which", "BadMachine": "which", "BadNumber": "which", "TooMany": "which",
    "BadTerm": "path", "BadSaying": "path", "BadText": "at", "BadName": "name", "NoLot": "name", "TooGreat": "step",
}
WITHOUT = ["BadLot", "BadOrder", "OtherBench", "OtherTracks", "NotOnTrees", "NotWeb", "NotPicked"]


class ErrorsTest(unittest.TestCase):
    def test_lot_error(self):
        self.assertEqual(errors.LotError.__bases__, (ValueError,))

    def test_each_stands_directly_under_lot_error(self):
        for name in list(WITH_ARGUMENT) + WITHOUT:
            self.assertEqual(getattr(errors, name).__bases__, (errors.LotError,), name)

    def test_the_list_is_whole(self):
        found = [name for name in vars(errors) if isinstance(getattr(errors, name), type)]
        self.assertEqual(sorted(found), sorted(list(WITH_ARGUMENT) + WITHOUT + ["LotError"]))

    def test_arguments_are_attributes(self):
        for name, attribute in WITH_ARGUMENT.items():
            for value in ("size", (0, 1), 7, None):
                made = getattr(errors, name)(value)
                self.assertEqual(getattr(made, attribute), value)
                with self.assertRaises(errors.LotError):
                    raise made

    def test_without_arguments(self):
        for name in WITHOUT:
            with self.assertRaises(errors.LotError):
                raise getattr(errors, name)()


if __name__ == "__main__":
    unittest.main()
