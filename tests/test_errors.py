"""Section 17, and what section 2 says of errors."""

import unittest

from treadplans import errors
from tests.values import VALUES

NAMES = (
    'BadPlan BadPlace BadNumber BadDraft BadEnd BadPick BadName BadRow BadThread BadBy BadPairs TooMany '
    'BadSort BadSide BadPicture NotNow BadPicks NotWhole NothingToUndo NothingToRedo BadText BadJournal BadLine'
).split()


class TestErrors(unittest.TestCase):
    def test_weave_error_is_directly_below_value_error(self):
        self.assertEqual(errors.WeaveError.__bases__, (ValueError,))
        self.assertEqual(errors.WeaveError.__name__, 'WeaveError')

    def test_each_error_is_directly_below_weave_error(self):
        self.assertEqual(len(NAMES), 23)
        for name in NAMES:
            with self.subTest(name):
                error = getattr(errors, name)
                self.assertEqual(error.__bases__, (errors.WeaveError,))
                self.assertEqual(error.__name__, name)
                self.assertEqual(error.__module__, 'treadplans.errors')

    def test_any_value_is_kept(self):
        for name in ['WeaveError', *NAMES]:
            for value in VALUES:
                with self.subTest(name, value=value):
                    self.assertIs(getattr(errors, name)(value).value, value)
                    self.assertIs(getattr(errors, name)(value=value).value, value)

    def test_a_raised_error_has_its_value(self):
        for name in ['WeaveError', *NAMES]:
            for value in VALUES:
                with self.subTest(name, value=value), self.assertRaises(errors.WeaveError) as caught:
                    raise getattr(errors, name)(value)
                self.assertIs(caught.exception.value, value)

    def test_just_one_argument(self):
        for name in ['WeaveError', *NAMES]:
            with self.subTest(name):
                self.assertRaises(TypeError, getattr(errors, name))
                self.assertRaises(TypeError, getattr(errors, name), 1, 2)

    def test_none_is_caught_as_another(self):
        for name in NAMES:
            for other in NAMES:
                is_caught = isinstance(getattr(errors, name)(1), getattr(errors, other))
                self.assertEqual(is_caught, name == other, (name, other))
