"""Points 11 and 12: islands, and two webs joined."""

import unittest

from feedweb.errors import Full, NoKind, Twice
from feedweb.islands import islands, joined
from feedweb.web import Web
from tests.helper import (SIXTEEN, SUN, Chance, all_of, any_of, eaters, eats, held, row_of_sixteen, some_of, web_by,
                          web_of)

A, B, C, D = eaters("abcd")


def named_in(need):
    """Whose names stand in the need, by its text."""
    flat = repr(need).replace("(", " ").replace(")", " ").replace(",", " ").split()
    return {text.strip("'") for word, text in zip(flat, flat[1:]) if word == "'eats'"}


def islands_by_merging(web):
    """Point 11 another way: each kind an island at first, and two made one where a need joins them."""
    island = {name: {name} for name in web.kinds()}
    for name, need in held(web):
        for other in named_in(need) & set(web.kinds()):
            whole = island[name] | island[other]
            for member in whole:
                island[member] = whole
    lists = [[kind for kind in web.kinds() if kind in island[name]] for name in web.kinds()]
    return [told for name, told in zip(web.kinds(), lists) if told[0] == name]


class Islands(unittest.TestCase):
    def test_an_empty_web(self):
        self.assertEqual(islands(Web()), [])

    def test_each_alone(self):
        self.assertEqual(islands(web_of(b=SUN, a=SUN, c=C)), [["b"], ["a"], ["c"]])

    def test_one_names_the_other(self):
        self.assertEqual(islands(web_of(a=SUN, b=A)), [["a", "b"]])
        self.assertEqual(islands(web_of(b=A, a=SUN)), [["b", "a"]])
        self.assertEqual(islands(web_of(a=B, b=A)), [["a", "b"]])

    def test_from_kind_to_kind(self):
        self.assertEqual(islands(web_by(row_of_sixteen())), [SIXTEEN])
        self.assertEqual(islands(web_by(row_of_sixteen()[::-1])), [SIXTEEN[::-1]])

    def test_two_that_eat_the_same_kind(self):
        self.assertEqual(islands(web_of(a=C, b=C, c=SUN)), [["a", "b", "c"]])

    def test_two_that_are_eaten_by_the_same_kind(self):
        self.assertEqual(islands(web_of(a=SUN, b=SUN, c=all_of(A, B))), [["a", "b", "c"]])

    def test_the_sun_joins_nobody(self):
        self.assertEqual(islands(web_of(a=SUN, b=any_of(SUN, SUN))), [["a"], ["b"]])

    def test_who_is_not_in_the_web_joins_nobody(self):
        strange = eats("strange")
        web = web_of(a=strange, b=any_of(strange, C), c=SUN)
        self.assertEqual(islands(web), [["a"], ["b", "c"]])
        web.add("strange", SUN)
        self.assertEqual(islands(web), [["a", "b", "c", "strange"]])
        web.drop("strange")
        self.assertEqual(islands(web), [["a"], ["b", "c"]])

    def test_a_name_anywhere_in_any_form_of_need(self):
        for need in (any_of(SUN, B), all_of(SUN, B), some_of(1, SUN, B), any_of(all_of(some_of(1, any_of(SUN, B))))):
            self.assertEqual(islands(web_of(a=need, c=SUN, b=SUN)), [["a", "b"], ["c"]])

    def test_who_lives_does_not_matter(self):
        self.assertEqual(islands(web_of(a=B, b=A, c=all_of(D, eats("strange")), d=D)), [["a", "b"], ["c", "d"]])

    def test_in_the_webs_order_and_by_their_first_kinds(self):
        web = web_of(d=SUN, a=SUN, c=A, b=D, e=C)
        self.assertEqual(islands(web), [["d", "b"], ["a", "c", "e"]])
        web.drop("d")
        web.add("d", SUN)
        self.assertEqual(islands(web), [["a", "c", "e"], ["b", "d"]])

    def test_webs_by_chance(self):
        chance = Chance(13)
        for total in list(range(1, 17)) * 8:
            for depth in (1, 2, 3):
                web = chance.web(total, depth)
                self.assertEqual(islands(web), islands_by_merging(web), held(web))

    def test_a_list_of_lists(self):
        told = islands(web_of(a=SUN, b=SUN))
        self.assertEqual([type(told)] + [type(island) for island in told], [list, list, list])


class Joined(unittest.TestCase):
    def test_the_first_then_the_second(self):
        whole = joined(web_of(c=SUN, a=all_of(C, B)), web_of(d=some_of(1, A, D), b=any_of(B, eats("strange"))))
        self.assertEqual(held(whole), [("c", SUN), ("a", all_of(C, B)), ("d", some_of(1, A, D)),
                                       ("b", any_of(B, eats("strange")))])

    def test_with_an_empty_web(self):
        rows = row_of_sixteen()
        self.assertEqual(held(joined(Web(), Web())), [])
        self.assertEqual(held(joined(web_by(rows), Web())), rows)
        self.assertEqual(held(joined(Web(), web_by(rows))), rows)

    def test_a_new_web(self):
        empty, full = Web(), web_of(a=SUN)
        for web, other in ((empty, full), (full, empty), (empty, empty)):
            whole = joined(web, other)
            self.assertIs(type(whole), Web)
            self.assertIsNot(whole, web)
            self.assertIsNot(whole, other)

    def test_nothing_hangs_on_the_webs_handed_in(self):
        web, other = web_of(a=SUN), web_of(b=A)
        whole = joined(web, other)
        web.drop("a")
        other.add("c", SUN)
        self.assertEqual(held(whole), [("a", SUN), ("b", A)])
        whole.drop("b")
        whole.add("d", SUN)
        self.assertEqual((held(web), held(other)), ([], [("b", A), ("c", SUN)]))

    def test_a_name_that_one_only_names(self):
        self.assertEqual(held(joined(web_of(a=B), web_of(b=A))), [("a", B), ("b", A)])

    def assert_refused(self, refusal, web, other):
        before = held(web), held(other)
        self.assertRaises(refusal, joined, web, other)
        self.assertEqual((held(web), held(other)), before)

    def test_a_name_that_both_have(self):
        self.assert_refused(Twice, web_of(a=SUN), web_of(a=SUN))
        self.assert_refused(Twice, web_of(a=SUN, b=SUN), web_of(c=SUN, b=A))
        self.assert_refused(Twice, web_of(a=SUN, b=SUN), web_of(a=SUN, c=SUN))

    def test_a_web_with_itself(self):
        web, empty = web_of(a=SUN, b=A), Web()
        self.assert_refused(Twice, web, web)
        self.assertEqual(held(joined(empty, empty)), [])

    def test_sixteen_are_joined_and_seventeen_refused(self):
        rows = row_of_sixteen()
        for place in range(17):
            self.assertEqual(held(joined(web_by(rows[:place]), web_by(rows[place:]))), rows)
        rows.append(("q", SUN))
        for place in range(1, 17):
            self.assert_refused(Full, web_by(rows[:place]), web_by(rows[place:]))

    def test_many_more_than_sixteen(self):
        self.assert_refused(Full, web_by(row_of_sixteen()), web_by([(name * 2, SUN) for name in SIXTEEN]))

    def test_twice_goes_ahead_of_full(self):
        rows = row_of_sixteen()
        for name in ("a", "h", "p"):
            self.assert_refused(Twice, web_by(rows), web_by([(name, SUN)]))
            self.assert_refused(Twice, web_by(rows), web_by([("q", SUN), ("r", SUN), (name, SUN)]))
            self.assert_refused(Twice, web_by([("q", SUN), ("r", SUN), (name, SUN)]), web_by(rows))
        self.assert_refused(Twice, web_by(rows), web_by(rows))

    def test_a_joined_web_is_a_web_like_any_other(self):
        whole = joined(web_by(row_of_sixteen()[:8]), web_by(row_of_sixteen()[8:]))
        self.assertRaises(Full, whole.add, "q", SUN)
        self.assertRaises(Twice, whole.add, "p", SUN)
        self.assertRaises(NoKind, whole.drop, "q")
        self.assertEqual(islands(whole), [SIXTEEN])


if __name__ == "__main__":
    unittest.main()
