import unittest

from mixtrees import errors

NAMES = [
    'InvalidTree', 'InvalidName', 'InvalidLengths', 'InvalidItem', 'InvalidNumber', 'InvalidSeen',
    'OtherFeeds', 'UnknownFeed', 'TooMany', 'TooLong', 'NothingToUndo',
]


class ErrorTest(unittest.TestCase):

    def test_base(self):
        self.assertEqual(errors.MixError.__bases__, (ValueError,))
        self.assertEqual(errors.MixError.__module__, 'mixtrees.errors')

    def test_all_of_them_and_no_others(self):
        found = [error.__name__ for error in errors.MixError.__subclasses__()]
        self.assertEqual(sorted(found), sorted(NAMES))

    def test_each_is_a_direct_subclass(self):
        for name in NAMES:
            with self.subTest(name):
                error = getattr(errors, name)
                self.assertEqual(error.__bases__, (errors.MixError,))
                self.assertEqual(error.__name__, name)
                self.assertEqual(error.__module__, 'mixtrees.errors')

    def test_none_is_a_subclass_of_another(self):
        for one in NAMES:
            for other in NAMES:
                related = issubclass(getattr(errors, one), getattr(errors, other))
                self.assertEqual(related, one == other, (one, other))

    def test_created_with_a_message(self):
        for name in ['MixError'] + NAMES:
            with self.subTest(name):
                error = getattr(errors, name)
                with self.assertRaises(ValueError) as caught:
                    raise error('what is wrong')
                self.assertIs(type(caught.exception), error)
                self.assertEqual(str(caught.exception), 'what is wrong')
                self.assertEqual(caught.exception.args, ('what is wrong',))
