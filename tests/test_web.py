"""Points 1 and 5: names, adding, dropping, asking, refusals, the order of kinds."""

import string
import unittest

from feedweb.errors import Full, NoKind, NoName, Twice
from feedweb.web import Web
from tests.helper import SIXTEEN, SUN, held

NEST = ("any", (("eats", "hare"), ("some", 1, (("eats", "egg"), ("all", (("eats", "vole"), SUN))))))
GOOD_NAMES = ["a", "z", "fox", "abcdefgh", "stuvwxyz", "zzzzzzzz", "eats", "some", "anys", "al", "off", "o", "suns"]
KEPT_WORDS = ["any", "all", "of", "sun"]
BAD_NAMES = ["", "abcdefghi", "Fox", "foX", "FOX", "A", "fox1", "1", "1fox", "a b", " fox", "fox ", " ", "fox-a", "fo_x",
             "fox!", "(fox)", "fox:", "~", "`", "{", "@", "[", "        "]


def web_of(names):
    web = Web()
    for name in names:
        web.add(name, ("eats", name))
    return web


class Adding(unittest.TestCase):
    def test_a_new_web_is_empty(self):
        self.assertEqual(Web().kinds(), [])

    def test_good_names(self):
        web = Web()
        for name in GOOD_NAMES:
            web.add(name, SUN)
        self.assertEqual(web.kinds(), GOOD_NAMES)

    def test_each_letter(self):
        for letter in string.ascii_lowercase:
            web = Web()
            web.add(letter, SUN)
            self.assertEqual(web.kinds(), [letter])

    def test_bad_names(self):
        for name in BAD_NAMES + KEPT_WORDS:
            with self.subTest(name=name):
                web = web_of(["fox"])
                self.assertRaises(NoName, web.add, name, SUN)
                self.assertEqual(held(web), [("fox", ("eats", "fox"))])

    def test_each_sign_that_is_no_letter_from_a_to_z(self):
        for number in range(ord(" "), ord("~") + 1):
            if chr(number) in string.ascii_lowercase + "%":
                continue
            for name in (chr(number), "a" + chr(number), chr(number) + "a", "a" + chr(number) + "a"):
                self.assertRaises(NoName, Web().add, name, SUN)

    def test_one_to_eight_letters(self):
        for many in range(1, 9):
            web = Web()
            web.add("q" * many, SUN)
            self.assertEqual(web.kinds(), ["q" * many])
        for many in (0, 9, 10, 40):
            self.assertRaises(NoName, Web().add, "q" * many, SUN)

    def test_twice(self):
        web = web_of(["fox", "hare"])
        self.assertRaises(Twice, web.add, "fox", SUN)
        self.assertEqual(held(web), [("fox", ("eats", "fox")), ("hare", ("eats", "hare"))])

    def test_twice_with_the_same_need(self):
        web = web_of(["fox"])
        self.assertRaises(Twice, web.add, "fox", ("eats", "fox"))

    def test_the_sixteenth_kind_is_taken_and_the_seventeenth_refused(self):
        web = web_of(SIXTEEN[:15])
        web.add("p", ("eats", "p"))
        self.assertEqual(web.kinds(), SIXTEEN)
        self.assertRaises(Full, web.add, "q", SUN)
        self.assertEqual(held(web), held(web_of(SIXTEEN)))

    def test_a_full_web_with_one_dropped_takes_one_more(self):
        web = web_of(SIXTEEN)
        web.drop("c")
        web.add("q", SUN)
        self.assertEqual(web.kinds(), list("abdefghijklmnopq"))
        self.assertRaises(Full, web.add, "c", SUN)

    def test_no_name_goes_ahead_of_full(self):
        web = web_of(SIXTEEN)
        for name in BAD_NAMES + KEPT_WORDS:
            self.assertRaises(NoName, web.add, name, SUN)
        self.assertEqual(held(web), held(web_of(SIXTEEN)))

    def test_no_name_goes_ahead_of_twice(self):
        # A web has no kind of a bad name, so a bad name handed in again is refused in the same way again.
        web = Web()
        for name in BAD_NAMES + KEPT_WORDS:
            self.assertRaises(NoName, web.add, name, SUN)
            self.assertRaises(NoName, web.add, name, SUN)
        self.assertEqual(web.kinds(), [])

    def test_twice_goes_ahead_of_full(self):
        web = web_of(SIXTEEN)
        for name in SIXTEEN:
            self.assertRaises(Twice, web.add, name, SUN)
        self.assertEqual(held(web), held(web_of(SIXTEEN)))

    def test_add_gives_back_nothing(self):
        self.assertIsNone(Web().add("fox", SUN))


class Dropping(unittest.TestCase):
    def test_drop(self):
        web = web_of(["fox", "hare", "grass"])
        web.drop("hare")
        self.assertEqual(held(web), [("fox", ("eats", "fox")), ("grass", ("eats", "grass"))])
        self.assertRaises(NoKind, web.need_of, "hare")

    def test_drop_gives_back_nothing(self):
        self.assertIsNone(web_of(["fox"]).drop("fox"))

    def test_a_kind_that_the_web_does_not_have(self):
        for name in ["hare", "", "Fox", "sun", "abcdefghi", "fo"]:
            with self.subTest(name=name):
                web = web_of(["fox"])
                self.assertRaises(NoKind, web.drop, name)
                self.assertEqual(held(web), [("fox", ("eats", "fox"))])

    def test_a_kind_that_is_only_named_in_a_need(self):
        web = Web()
        web.add("fox", ("eats", "hare"))
        self.assertRaises(NoKind, web.drop, "hare")

    def test_dropped_twice(self):
        web = web_of(["fox", "hare"])
        web.drop("fox")
        self.assertRaises(NoKind, web.drop, "fox")
        self.assertEqual(web.kinds(), ["hare"])

    def test_dropping_a_kind_leaves_the_needs_that_name_it(self):
        web = Web()
        web.add("hare", SUN)
        web.add("fox", ("eats", "hare"))
        web.drop("hare")
        self.assertEqual(held(web), [("fox", ("eats", "hare"))])

    def test_dropped_and_added_again_stands_last(self):
        web = web_of(["fox", "hare", "grass"])
        web.drop("fox")
        web.add("fox", SUN)
        self.assertEqual(held(web), [("hare", ("eats", "hare")), ("grass", ("eats", "grass")), ("fox", SUN)])

    def test_all_dropped(self):
        web = web_of(SIXTEEN)
        for name in SIXTEEN:
            web.drop(name)
        self.assertEqual(web.kinds(), [])


class Asking(unittest.TestCase):
    def test_kinds_stand_in_the_order_of_adding(self):
        self.assertEqual(web_of(["hare", "fox", "zebra", "ape"]).kinds(), ["hare", "fox", "zebra", "ape"])

    def test_need_of(self):
        web = Web()
        needs = [SUN, ("eats", "fox"), ("any", (SUN,)), ("all", (SUN, SUN)), ("some", 2, (SUN, SUN)), NEST]
        for name, need in zip("abcdef", needs):
            web.add(name, need)
        self.assertEqual([web.need_of(name) for name in "abcdef"], needs)

    def test_a_need_may_name_kinds_that_the_web_does_not_have(self):
        web = Web()
        web.add("fox", NEST)
        web.add("cat", ("eats", "cat"))
        self.assertEqual(held(web), [("fox", NEST), ("cat", ("eats", "cat"))])

    def test_need_of_a_kind_that_the_web_does_not_have(self):
        web = Web()
        web.add("fox", ("eats", "hare"))
        for name in ["hare", "", "Fox", "sun", "abcdefghi", "fo"]:
            with self.subTest(name=name):
                self.assertRaises(NoKind, web.need_of, name)
                self.assertEqual(held(web), [("fox", ("eats", "hare"))])

    def test_the_list_told_is_the_askers_own(self):
        web = web_of(["fox", "hare"])
        told = web.kinds()
        told.append("other")
        told.remove("fox")
        self.assertEqual(web.kinds(), ["fox", "hare"])
        self.assertRaises(NoKind, web.need_of, "other")

    def test_a_list_told_before_stays_as_it_is(self):
        web = web_of(["fox", "hare"])
        told = web.kinds()
        web.drop("fox")
        web.add("grass", SUN)
        self.assertIs(type(told), list)
        self.assertEqual(told, ["fox", "hare"])

    def test_asking_changes_nothing(self):
        web = web_of(["fox", "hare"])
        before = held(web)
        web.need_of("hare")
        web.kinds()
        self.assertEqual(held(web), before)


class SideBySide(unittest.TestCase):
    def test_two_webs_have_nothing_in_common(self):
        one, other = Web(), Web()
        one.add("fox", SUN)
        self.assertEqual(other.kinds(), [])
        other.add("fox", NEST)
        other.add("hare", SUN)
        self.assertEqual(held(one), [("fox", SUN)])
        one.drop("fox")
        self.assertEqual(held(other), [("fox", NEST), ("hare", SUN)])

    def test_a_full_web_fills_no_other(self):
        web_of(SIXTEEN)
        self.assertEqual(web_of(SIXTEEN).kinds(), SIXTEEN)


if __name__ == "__main__":
    unittest.main()
