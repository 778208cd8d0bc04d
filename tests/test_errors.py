"""The error classes of the interface, and that each refusal is of its own class and of no other."""

import unittest

from feedweb import errors
from feedweb.cuts import cut, felled
from feedweb.feeding import hangs_on, levels, living
from feedweb.islands import joined
from feedweb.needs import ways_of
from feedweb.notes import read
from feedweb.web import Web
from tests.helper import SIXTEEN, SUN, all_of, web_by, web_of

REFUSALS = ("NoName", "Twice", "Full", "NoKind", "TooLarge", "NotPlain", "NoNote")


def class_refusing(deed, *arguments):
    try:
        deed(*arguments)
    except Exception as error:
        return type(error)
    return None


def full_web():
    return web_by([(name, SUN) for name in SIXTEEN])


class ErrorClasses(unittest.TestCase):
    def test_feed_error_stands_straight_under_value_error(self):
        self.assertEqual(errors.FeedError.__bases__, (ValueError,))

    def test_each_refusal_stands_straight_under_feed_error(self):
        for name in REFUSALS:
            with self.subTest(name=name):
                self.assertEqual(getattr(errors, name).__bases__, (errors.FeedError,))

    def test_the_classes_bear_their_names(self):
        for name in REFUSALS + ("FeedError",):
            with self.subTest(name=name):
                self.assertEqual(getattr(errors, name).__name__, name)

    def test_no_class_stands_for_two(self):
        classes = [getattr(errors, name) for name in REFUSALS]
        self.assertEqual(len(set(classes)), 7)


class EachRefusalOfItsOwnClass(unittest.TestCase):
    def test_no_name(self):
        self.assertIs(class_refusing(Web().add, "Fox", SUN), errors.NoName)

    def test_twice(self):
        web = Web()
        web.add("fox", SUN)
        self.assertIs(class_refusing(web.add, "fox", SUN), errors.Twice)

    def test_full(self):
        self.assertIs(class_refusing(full_web().add, "fox", SUN), errors.Full)

    def test_no_kind_at_drop(self):
        self.assertIs(class_refusing(Web().drop, "fox"), errors.NoKind)

    def test_no_kind_at_need_of(self):
        self.assertIs(class_refusing(Web().need_of, "fox"), errors.NoKind)

    def test_too_large(self):
        need = ("any", (("all", tuple(("eats", letter) for letter in "abcd")),
                        ("all", tuple(("eats", letter) for letter in "efg"))))
        self.assertIs(class_refusing(ways_of, need), errors.TooLarge)
        self.assertIs(class_refusing(felled, full_web(), "a"), errors.TooLarge)

    def test_no_kind_elsewhere(self):
        for deed in (hangs_on, cut, felled):
            self.assertIs(class_refusing(deed, full_web(), "fox"), errors.NoKind)
        for deed in (levels, living):
            self.assertIs(class_refusing(deed, full_web(), ["a", "fox"]), errors.NoKind)

    def test_twice_and_full_at_joined(self):
        self.assertIs(class_refusing(joined, full_web(), full_web()), errors.Twice)
        self.assertIs(class_refusing(joined, full_web(), web_of(fox=SUN)), errors.Full)

    def test_not_plain(self):
        self.assertIs(class_refusing(cut, web_of(fox=all_of(SUN)), "fox"), errors.NotPlain)

    def test_no_note(self):
        for text in ("fox", "sun: sun", "fox: sun\nfox: sun", "\n".join(f"a{name}: sun" for name in SIXTEEN + ["q"])):
            self.assertIs(class_refusing(read, text), errors.NoNote)


if __name__ == "__main__":
    unittest.main()
