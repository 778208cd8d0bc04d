"""Points 6 and 7: levels, who lives, and on whom a kind hangs."""

import itertools
import unittest

from feedweb.errors import NoKind
from feedweb.feeding import hangs_on, levels, living
from feedweb.web import Web
from tests.helper import (SIXTEEN, SUN, UNKNOWN_NAMES, Chance, all_of, alive_without, any_of, eaters, eats, held, meets,
                          row_of_sixteen, sets_of, some_of, web_by, web_of)

A, B, C, D = eaters("abcd")


def webs_by_chance():
    chance = Chance(6)
    for total in list(range(1, 17)) * 6:
        yield chance.web(total)


def small_webs():
    """Every web of three kinds with these needs."""
    needs = [SUN, A, B, all_of(A, C), any_of(B, C), some_of(2, SUN, A, B), any_of(SUN, eats("strange"))]
    for chosen in itertools.product(needs, repeat=3):
        yield web_by(zip("bca", chosen))


class Levels(unittest.TestCase):
    def assert_levels(self, web, taken, told):
        self.assertEqual(levels(web, taken), list(zip(web.kinds(), told)))

    def assert_levels_by_words(self, web, taken):
        """Point 6 for each kind: fed by the lesser levels, and not by fewer of them; or fed by nobody who lives."""
        told = levels(web, taken)
        self.assertEqual([name for name, level in told], web.kinds())
        for name, level in told:
            need = web.need_of(name)
            below = [other for other, lesser in told if lesser is not None and (level is None or lesser < level)]
            fewer = [other for other, lesser in told if lesser is not None and level is not None and lesser < level - 1]
            if name in taken:
                self.assertIsNone(level, (held(web), taken))
            elif level is None:
                self.assertFalse(meets(need, below), (held(web), taken))
            else:
                self.assertTrue(level >= 1 and meets(need, below), (held(web), taken))
                self.assertTrue(level == 1 or not meets(need, fewer), (held(web), taken))

    def test_an_empty_web(self):
        self.assertEqual(levels(Web(), []), [])

    def test_by_the_sun_alone(self):
        self.assert_levels(web_of(a=SUN, b=SUN), [], [1, 1])

    def test_needs_that_nobody_alive_meets_too(self):
        web = web_of(a=any_of(D, SUN), b=all_of(SUN, any_of(SUN)), c=some_of(2, SUN, D, SUN), d=some_of(2, SUN, A))
        self.assert_levels(web, [], [1, 1, 1, 2])

    def test_a_row_of_sixteen(self):
        rows = row_of_sixteen()
        self.assertEqual(levels(web_by(rows), []), list(zip(SIXTEEN, range(1, 17))))
        self.assertEqual(levels(web_by(rows[::-1]), []), list(zip(SIXTEEN[::-1], range(16, 0, -1))))

    def test_a_row_of_sixteen_with_one_taken(self):
        web = web_by(row_of_sixteen())
        for place in range(16):
            self.assert_levels(web, [SIXTEEN[place]], list(range(1, place + 1)) + [None] * (16 - place))

    def test_the_least_level_that_it_can(self):
        web = web_of(a=SUN, b=A, c=B, far=any_of(C, B), near=any_of(C, A, B), both=all_of(A, C), two=some_of(2, C, B, A))
        self.assert_levels(web, [], [1, 2, 3, 3, 2, 4, 3])

    def test_a_level_is_fed_by_all_lesser_levels_and_not_by_the_one_below_alone(self):
        self.assert_levels(web_of(a=SUN, b=A, c=all_of(A, B), d=all_of(A, B, C)), [], [1, 2, 3, 4])

    def test_nobody_is_fed_by_the_same_level(self):
        self.assert_levels(web_of(a=SUN, b=SUN, c=A, d=all_of(B, C)), [], [1, 1, 2, 3])

    def test_kinds_that_eat_each_other(self):
        self.assert_levels(web_of(a=B, b=A, c=SUN), [], [None, None, 1])
        self.assert_levels(web_of(a=B, b=C, c=A), [], [None, None, None])
        self.assert_levels(web_of(a=B, b=any_of(A, C), c=SUN), [], [3, 2, 1])
        self.assert_levels(web_of(a=B, b=any_of(A, C), c=SUN), ["c"], [None, None, None])
        self.assert_levels(web_of(a=B, b=all_of(A, C), c=SUN), [], [None, None, 1])

    def test_a_kind_that_eats_itself(self):
        self.assert_levels(web_of(a=A, b=any_of(B, SUN), c=all_of(C, SUN), d=any_of(D, B)), [], [None, 1, None, 2])

    def test_needs_that_name_kinds_which_the_web_does_not_have(self):
        strange = eats("strange")
        web = web_of(a=strange, b=any_of(strange, SUN), c=all_of(strange, SUN), d=some_of(2, strange, B, SUN))
        self.assert_levels(web, [], [None, 1, None, 2])

    def test_a_kind_called_like_a_form_of_need(self):
        self.assert_levels(web_of(some=SUN, eats=eats("some")), [], [1, 2])

    def test_who_is_taken_has_no_level(self):
        web = web_of(a=SUN, b=SUN, c=any_of(A, B), d=all_of(A, B))
        self.assert_levels(web, [], [1, 1, 2, 2])
        self.assert_levels(web, ["a"], [None, 1, 2, None])
        self.assert_levels(web, ["b", "a"], [None, None, None, None])
        self.assert_levels(web, ["c"], [1, 1, None, 2])

    def test_a_level_may_be_higher_where_one_is_taken(self):
        self.assert_levels(web_of(a=SUN, b=SUN, c=B, d=any_of(A, C)), ["a"], [None, 1, 2, 3])

    def test_all_taken(self):
        web = web_by(row_of_sixteen())
        self.assert_levels(web, SIXTEEN, [None] * 16)
        self.assert_levels(web, SIXTEEN[::-1] + SIXTEEN, [None] * 16)

    def test_taken_twice_is_taken_once(self):
        web = web_of(a=SUN, b=A, c=any_of(SUN, B))
        for taken in (["a", "a"], ["a", "a", "a"]):
            self.assert_levels(web, taken, [None, None, 1])
        self.assert_levels(web, ["b", "c", "b"], [1, None, None])

    def test_taking_a_kind_that_the_web_does_not_have(self):
        for name in UNKNOWN_NAMES + ["c"]:
            for taken in ([name], ["a", name], [name, "a", "b"], ["a", "b", name]):
                web = web_of(a=SUN, b=any_of(A, C))
                with self.subTest(taken=taken):
                    self.assertRaises(NoKind, levels, web, taken)
                    self.assertRaises(NoKind, living, web, taken)
                    self.assertEqual(held(web), [("a", SUN), ("b", any_of(A, C))])

    def test_taking_from_an_empty_web(self):
        self.assertRaises(NoKind, levels, Web(), ["a"])
        self.assertRaises(NoKind, living, Web(), ["a"])

    def test_a_dropped_kind_can_not_be_taken(self):
        web = web_of(a=SUN, b=A)
        web.drop("a")
        self.assertRaises(NoKind, levels, web, ["a"])
        self.assert_levels(web, [], [None])

    def test_the_order_is_the_webs(self):
        web = web_of(c=SUN, b=C, a=B)
        web.drop("c")
        web.add("c", SUN)
        self.assertEqual(levels(web, []), [("b", 2), ("a", 3), ("c", 1)])
        self.assertEqual(living(web, []), ["b", "a", "c"])

    def test_small_webs_with_all_sets_taken(self):
        for web in small_webs():
            for taken in sets_of(web.kinds()):
                self.assert_levels_by_words(web, list(taken))

    def test_webs_by_chance(self):
        chance = Chance(7)
        for web in webs_by_chance():
            self.assert_levels_by_words(web, [])
            for turn in range(6):
                self.assert_levels_by_words(web, [chance.one_of(web.kinds()) for place in range(chance.below(5))])

    def test_a_list_of_tuples(self):
        told = levels(web_of(a=SUN, b=B), [])
        self.assertIs(type(told), list)
        self.assertEqual([type(row) for row in told], [tuple, tuple])
        self.assertIs(type(told[0][1]), int)
        self.assertIsNone(told[1][1])

    def test_a_need_somewhat_beyond_the_bounds_is_not_refused(self):
        deep = any_of(all_of(any_of(all_of(any_of(all_of(A, SUN))))))
        self.assert_levels(web_of(a=SUN, b=deep, c=some_of(3, SUN, A), d=some_of(5, SUN, A, B, SUN, SUN)), [],
                           [1, 2, None, 3])


class Living(unittest.TestCase):
    def test_an_empty_web(self):
        self.assertEqual(living(Web(), []), [])

    def test_who_has_a_level(self):
        web = web_of(d=any_of(A, C), c=C, b=A, a=SUN)
        self.assertEqual(living(web, []), ["d", "b", "a"])
        self.assertEqual(living(web, ["b"]), ["d", "a"])
        self.assertEqual(living(web, ["b", "b"]), ["d", "a"])
        self.assertEqual(living(web, ["a"]), [])
        self.assertEqual(living(web, ["d", "c", "b", "a"]), [])

    def test_a_row_of_sixteen(self):
        web = web_by(row_of_sixteen())
        self.assertEqual(living(web, []), SIXTEEN)
        self.assertEqual(living(web, ["i"]), list("abcdefgh"))
        self.assertEqual(living(web, ["p", "b"]), ["a"])

    def test_small_webs_with_all_sets_taken(self):
        for web in small_webs():
            for taken in sets_of(web.kinds()):
                self.assertEqual(living(web, list(taken)), alive_without(web, taken), (held(web), taken))

    def test_webs_by_chance(self):
        for web in webs_by_chance():
            self.assertEqual(living(web, []), alive_without(web, []), held(web))

    def test_a_list(self):
        self.assertIs(type(living(web_of(a=SUN), [])), list)


class HangsOn(unittest.TestCase):
    def test_a_row_of_sixteen(self):
        web = web_by(row_of_sixteen())
        for place in range(16):
            self.assertEqual(hangs_on(web, SIXTEEN[place]), SIXTEEN[:place])

    def test_in_the_webs_order(self):
        web = web_by(row_of_sixteen()[::-1])
        self.assertEqual(hangs_on(web, "d"), ["c", "b", "a"])

    def test_by_the_sun_alone(self):
        self.assertEqual(hangs_on(web_of(a=SUN, b=A), "a"), [])

    def test_one_of_two_is_enough(self):
        web = web_of(a=SUN, b=SUN, c=any_of(A, B), d=C)
        self.assertEqual(hangs_on(web, "c"), [])
        self.assertEqual(hangs_on(web, "d"), ["c"])

    def test_two_that_hang_on_one(self):
        web = web_of(a=SUN, b=A, c=A, d=any_of(B, C))
        self.assertEqual(hangs_on(web, "d"), ["a"])

    def test_all_and_some(self):
        self.assertEqual(hangs_on(web_of(a=SUN, b=SUN, c=all_of(A, B)), "c"), ["a", "b"])
        self.assertEqual(hangs_on(web_of(a=SUN, b=SUN, c=SUN, d=some_of(2, A, B, C)), "d"), [])
        self.assertEqual(hangs_on(web_of(a=SUN, b=A, c=SUN, d=some_of(2, A, B, C)), "d"), ["a"])

    def test_who_does_not_live_hangs_on_nobody(self):
        web = web_of(a=SUN, b=C, c=B, d=all_of(A, B), e=eats("strange"), f=eats("f"))
        for name in "bcdef":
            self.assertEqual(hangs_on(web, name), [])

    def test_never_on_itself(self):
        web = web_of(a=any_of(A, SUN), b=any_of(B, A))
        self.assertEqual(hangs_on(web, "a"), [])
        self.assertEqual(hangs_on(web, "b"), ["a"])

    def test_not_on_those_that_hang_on_it(self):
        self.assertEqual(hangs_on(web_of(a=SUN, b=any_of(A, C), c=B), "b"), ["a"])

    def test_a_kind_that_the_web_does_not_have(self):
        for name in UNKNOWN_NAMES + ["c"]:
            web = web_of(a=SUN, b=any_of(A, C))
            with self.subTest(name=name):
                self.assertRaises(NoKind, hangs_on, web, name)
                self.assertEqual(held(web), [("a", SUN), ("b", any_of(A, C))])
        self.assertRaises(NoKind, hangs_on, Web(), "a")

    def test_small_webs_and_webs_by_chance(self):
        for web in itertools.chain(small_webs(), webs_by_chance()):
            alive = alive_without(web, [])
            without = {other: alive_without(web, [other]) for other in web.kinds()}
            for name in web.kinds():
                told = [other for other in web.kinds() if other != name and name in alive and name not in without[other]]
                self.assertEqual(hangs_on(web, name), told, (held(web), name))

    def test_a_list(self):
        self.assertIs(type(hangs_on(web_of(a=SUN), "a")), list)


if __name__ == "__main__":
    unittest.main()
