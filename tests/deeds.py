"""What the tests of objects that do things share."""

import unittest


class DeedTest(unittest.TestCase):
    """A subclass gives `seen`, which returns all that can be read of an object."""

    def assert_error(self, thing, kind, attributes, deed, *args, **keywords):
        """Checks the error of a deed and that the object stays as it is."""
        before = self.seen(thing)
        with self.subTest(deed=deed, args=args, keywords=keywords):
            with self.assertRaises(kind) as found:
                getattr(thing, deed)(*args, **keywords)
            self.assertEqual(vars(found.exception), attributes)
            self.assertEqual(self.seen(thing), before)
