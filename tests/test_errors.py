"""The refusals, made by hand."""

import unittest

from kinsignals import errors

VALUES = {"NoTitle": "title", "NoOne": "name", "NoSession": "name", "NoText": "row"}
PLAIN = ("NoBook", "NoTyped", "NoEntry", "NoScript", "TooMany", "NoLine", "NoHouse")


def made(word):
    kind = getattr(errors, word)
    return kind(0) if word in VALUES else kind()


class Refusals(unittest.TestCase):
    def test_kin_error_stands_straight_under_value_error(self):
        self.assertEqual(errors.KinError.__bases__, (ValueError,))

    def test_each_stands_straight_under_kin_error(self):
        for word in (*VALUES, *PLAIN):
            with self.subTest(word):
                self.assertEqual(getattr(errors, word).__bases__, (errors.KinError,))

    def test_each_is_of_no_other_class_of_the_family(self):
        words = (*VALUES, *PLAIN)
        self.assertEqual(len(words), 11)
        for word in words:
            refusal = made(word)
            self.assertIsInstance(refusal, errors.KinError)
            self.assertIsInstance(refusal, ValueError)
            kin = [other for other in words if isinstance(refusal, getattr(errors, other))]
            self.assertEqual(kin, [word])

    def test_each_can_be_raised_and_caught_as_a_kin_error(self):
        for word in (*VALUES, *PLAIN):
            with self.subTest(word):
                with self.assertRaises(errors.KinError) as caught:
                    raise made(word)
                self.assertIs(caught.exception.__class__, getattr(errors, word))

    def test_nothing_else_stands_in_the_file(self):
        there = sorted(word for word in vars(errors) if not word.startswith("_"))
        self.assertEqual(there, sorted(("KinError", *VALUES, *PLAIN)))


class Values(unittest.TestCase):
    def test_the_very_value_is_kept_whatever_it_is(self):
        anything = (
            None, True, 0, -1, 10 ** 9, "", "a", b"a", (), (0, 1), [], [[1]], {}, {"a": []}, {1, 2}, object(), errors,
        )
        for word, value in VALUES.items():
            for thing in anything:
                with self.subTest(word, thing=thing):
                    self.assertIs(getattr(getattr(errors, word)(thing), value), thing)

    def test_the_value_is_handed_in_by_its_name_too(self):
        for word, value in VALUES.items():
            self.assertEqual(getattr(getattr(errors, word)(**{value: 7}), value), 7)

    def test_a_list_as_value_is_not_changed(self):
        thing = [1, [2]]
        errors.NoTitle(thing)
        self.assertEqual(thing, [1, [2]])

    def test_those_with_a_value_take_just_one(self):
        for word in VALUES:
            with self.subTest(word):
                self.assertRaises(TypeError, getattr(errors, word))
                self.assertRaises(TypeError, getattr(errors, word), 1, 2)

    def test_those_without_take_nothing(self):
        for word in PLAIN:
            with self.subTest(word):
                self.assertRaises(TypeError, getattr(errors, word), 1)


if __name__ == "__main__":
    unittest.main()
