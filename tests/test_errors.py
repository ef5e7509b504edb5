import unittest

from unmovedways import errors
from unmovedways.errors import UnmovedError

ATTRIBUTES = {
    "InvalidHouse": [],
    "InvalidNet": [],
    "InvalidState": ["channel"],
    "OverLimit": ["where"],
    "ChannelTaken": ["channel"],
    "NoSuchChannel": ["channel"],
    "NoSuchCall": ["channel", "where"],
    "Unsafe": ["need"],
    "SafeState": ["need"],
    "Hopeless": ["need"],
    "Refused": ["where"],
    "InvalidText": ["text"],
    "InvalidRule": ["cell"],
    "TooLarge": ["size"],
    "NoWay": ["most"],
    "NothingLeft": ["count"],
    "InvalidRoute": ["place"],
    "NoSuchBooking": ["number"],
    "BlockedBy": ["number"],
    "BadLog": ["line"],
    "NoLetter": ["index"],
}


def values_for(names):
    return [f"a {name}" if name == "text" else 7 + at for at, name in enumerate(names)]


class ErrorsTest(unittest.TestCase):
    def test_base_class(self):
        self.assertEqual(UnmovedError.__bases__, (ValueError,))
        self.assertEqual(UnmovedError.__module__, "unmovedways.errors")

    def test_no_class_is_missing_or_too_many(self):
        found = [name for name, value in vars(errors).items() if isinstance(value, type)]
        self.assertEqual(sorted(found), sorted([*ATTRIBUTES, "UnmovedError"]))

    def test_each_is_a_direct_subclass_and_none_of_the_others(self):
        for name in ATTRIBUTES:
            kind = getattr(errors, name)
            with self.subTest(name):
                self.assertEqual(kind.__bases__, (UnmovedError,))
                self.assertEqual(kind.__module__, "unmovedways.errors")
                for other in ATTRIBUTES:
                    self.assertEqual(issubclass(kind, getattr(errors, other)), other == name)

    def test_attributes_in_the_listed_order(self):
        for name, attributes in ATTRIBUTES.items():
            with self.subTest(name):
                values = values_for(attributes)
                error = getattr(errors, name)(*values)
                self.assertEqual(vars(error), dict(zip(attributes, values)))
                self.assertEqual([getattr(error, attribute) for attribute in attributes], values)

    def test_number_of_arguments(self):
        for name, attributes in ATTRIBUTES.items():
            with self.subTest(name):
                if attributes:
                    with self.assertRaises(TypeError):
                        getattr(errors, name)()
                    with self.assertRaises(TypeError):
                        getattr(errors, name)(*values_for(attributes), 1)

    def test_raised_and_caught_by_each_of_its_classes(self):
        for name, attributes in ATTRIBUTES.items():
            kind = getattr(errors, name)
            for caught in (kind, UnmovedError, ValueError):
                with self.subTest(name, caught=caught):
                    with self.assertRaises(caught) as found:
                        raise kind(*values_for(attributes))
                    self.assertIs(type(found.exception), kind)


if __name__ == "__main__":
    unittest.main()
