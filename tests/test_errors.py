import unittest

from facesagain import errors

PLAIN = [
    "InvalidSheet", "InvalidFamily", "InvalidPattern", "InvalidJoins", "InvalidRow", "InvalidCount", "InvalidWidth",
    "InvalidDay", "InvalidNumber", "InvalidIndex", "NotFull", "NothingToUndo",
]


class ErrorsTest(unittest.TestCase):
    def test_base_is_a_value_error(self):
        self.assertEqual(errors.FaceError.__bases__, (ValueError,))

    def test_each_is_a_direct_subclass_of_the_base_and_of_no_other_one(self):
        for name in PLAIN + ["Impossible", "InvalidText"]:
            with self.subTest(name=name):
                self.assertEqual(getattr(errors, name).__bases__, (errors.FaceError,))
                self.assertEqual(getattr(errors, name).__name__, name)

    def test_all_have_unlike_names_and_are_defined_here(self):
        classes = {getattr(errors, name) for name in PLAIN + ["Impossible", "InvalidText", "FaceError"]}
        self.assertEqual(len(classes), 15)
        self.assertEqual({found.__module__ for found in classes}, {"facesagain.errors"})

    def test_plain_ones_are_made_with_one_string(self):
        for name in PLAIN:
            with self.subTest(name=name):
                with self.assertRaises(errors.FaceError) as caught:
                    raise getattr(errors, name)("told why")
                self.assertEqual(str(caught.exception), "told why")
                self.assertIs(caught.exception.__class__, getattr(errors, name))

    def test_impossible_keeps_its_arguments(self):
        for made in (
            errors.Impossible("gap", 2, 5),
            errors.Impossible(word="gap", first=2, second=5),
            errors.Impossible(second=5, first=2, word="gap"),
            errors.Impossible("gap", 2, second=5),
        ):
            self.assertEqual((made.word, made.first, made.second), ("gap", 2, 5))

    def test_invalid_text_keeps_its_place(self):
        self.assertEqual(errors.InvalidText(7).place, 7)
        self.assertEqual(errors.InvalidText(place=0).place, 0)

    def test_those_with_fields_can_be_raised_and_caught(self):
        with self.assertRaises(errors.FaceError) as caught:
            raise errors.Impossible("away", 0, 3)
        self.assertEqual(caught.exception.second, 3)
        with self.assertRaises(ValueError) as caught:
            raise errors.InvalidText(1)
        self.assertEqual(caught.exception.place, 1)


if __name__ == "__main__":
    unittest.main()
