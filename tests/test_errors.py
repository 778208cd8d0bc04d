"""The error classes of the interface, and that each refusal is of its own class and of no other."""

import unittest

from feedweb import errors
from feedweb.needs import ways_of
from feedweb.web import Web

REFUSALS = ("NoName", "Twice", "Full", "NoKind", "TooLarge", "NotPlain", "NoNote")
SUN = ("sun",)


def class_refusing(deed, *arguments):
    try:
        deed(*arguments)
    except Exception as error:
        return type(error)
    return None


def full_web():
    web = Web()
    for letter in "abcdefghijklmnop":
        web.add(letter, SUN)
    return web


class ErrorClasses(unittest.TestCase):
    def test_feed_error_stands_straight_under_value_error(self):
        self.assertEqual(errors.FeedError.__bases__, (ValueError,))

    def test_each_refusal_stands_straight_under_feed_error(self):
        for name in REFUSALS:
            with self.subTest(name=name):
                self.assertEqual(getattr(errors, name).__bases__, (errors.FeedError,))

    def test_the_classes_bear_their_names(self):
        for name in REFUSALS + ("FeedError",):
            with self.subTest(name=name):
                self.assertEqual(getattr(errors, name).__name__, name)

    def test_no_class_stands_for_two(self):
        classes = [getattr(errors, name) for name in REFUSALS]
        self.assertEqual(len(set(classes)), 7)


class EachRefusalOfItsOwnClass(unittest.TestCase):
    def test_no_name(self):
        self.assertIs(class_refusing(Web().add, "Fox", SUN), errors.NoName)

    def test_twice(self):
        web = Web()
        web.add("fox", SUN)
        self.assertIs(class_refusing(web.add, "fox", SUN), errors.Twice)

    def test_full(self):
        self.assertIs(class_refusing(full_web().add, "fox", SUN), errors.Full)

    def test_no_kind_at_drop(self):
        self.assertIs(class_refusing(Web().drop, "fox"), errors.NoKind)

    def test_no_kind_at_need_of(self):
        self.assertIs(class_refusing(Web().need_of, "fox"), errors.NoKind)

    def test_too_large(self):
        need = ("any", (("all", tuple(("eats", letter) for letter in "abcd")),
                        ("all", tuple(("eats", letter) for letter in "efg"))))
        self.assertIs(class_refusing(ways_of, need), errors.TooLarge)


if __name__ == "__main__":
    unittest.main()
