"""Points 8 to 10: plain webs, cuts with as many ways apart, and the least set that fells a kind."""

import itertools
import unittest

from feedweb.cuts import cut, felled, is_plain
from feedweb.errors import NoKind, NotPlain, TooLarge
from feedweb.web import Web
from tests.helper import (SIXTEEN, SUN, UNKNOWN_NAMES, Chance, all_of, alive_without, any_of, eaters, eats, held,
                          row_of_sixteen, sets_of, some_of, web_by, web_of)

A, B, C, D, E, F = eaters("abcdef")
NOT_PLAIN_NEEDS = [all_of(A), some_of(1, A), all_of(SUN, SUN), some_of(2, A, SUN), any_of(A, all_of(B, SUN)),
                   any_of(SUN, some_of(1, SUN)), any_of(any_of(any_of(any_of(B), all_of(C)), A))]


def leaves(need):
    return [leaf for part in need[1] for leaf in leaves(part)] if need[0] == "any" else [need]


def plain_small_webs():
    """Every web of three kinds with needs of up to four leaves."""
    needs = [any_of(*chosen) for chosen in sets_of((SUN, A, B, C)) if chosen]
    for chosen in itertools.product(needs, repeat=3):
        yield web_by(zip("bca", chosen))


def crossing_webs(chance):
    """Webs of sixteen with little sun and much to cross, so that a way once chosen has to be given up for others."""
    for turn in range(150):
        layers = ["bcde", "fghi", "jklm", "nop"]
        rows = [("a", any_of(*eaters("bcde")))]
        for layer, below in zip(layers, layers[1:]):
            for name in layer:
                named = [chance.one_of(below + layer) for place in range(1 + chance.below(2))]
                rows.append((name, any_of(*eaters(named))))
        yield web_by(rows + [(name, SUN) for name in layers[-1]])


class IsPlain(unittest.TestCase):
    def test_an_empty_web(self):
        self.assertIs(is_plain(Web()), True)

    def test_sun_eats_and_any(self):
        self.assertIs(is_plain(web_of(a=SUN, b=A, c=any_of(A, SUN, any_of(any_of(any_of(B)), C)))), True)

    def test_all_or_some_anywhere(self):
        for need in NOT_PLAIN_NEEDS:
            for rows in ([("a", need)], [("a", SUN), ("b", need)], [("a", need), ("b", SUN)],
                         [("a", SUN), ("b", need), ("c", A)]):
                with self.subTest(rows=rows):
                    self.assertIs(is_plain(web_by(rows)), False)

    def test_a_kind_called_some(self):
        self.assertIs(is_plain(web_of(some=SUN, b=eats("some"), c=any_of(eats("some"), eats("eats")))), True)

    def test_a_web_is_plain_again_without_the_kind(self):
        web = web_of(a=SUN, b=all_of(A))
        web.drop("b")
        self.assertIs(is_plain(web), True)


class Cut(unittest.TestCase):
    def assert_way(self, web, name, way):
        self.assertIs(type(way), list)
        self.assertTrue(way)
        self.assertEqual(len(set(way)), len(way), "none comes twice")
        self.assertTrue(set(way) <= set(web.kinds()) - {name}, "a row of other kinds")
        for ahead, behind in zip([name] + way, way):
            self.assertIn(eats(behind), leaves(web.need_of(ahead)))
        self.assertIn(SUN, leaves(web.need_of(way[-1])))

    def assert_cut(self, web, name):
        """Point 9, word by word. As many ways as kinds: so none of less kinds cuts, and no more ways are apart."""
        told = cut(web, name)
        if SUN in leaves(web.need_of(name)):
            self.assertIsNone(told)
            return
        self.assertIs(type(told), tuple)
        kinds, ways = told
        self.assertEqual((type(kinds), type(ways)), (list, list))
        self.assertEqual(kinds, [kind for kind in web.kinds() if kind in kinds and kind != name])
        self.assertNotIn(name, alive_without(web, kinds))
        self.assertEqual(len(ways), len(kinds))
        for way in ways:
            self.assert_way(web, name, way)
        named = [kind for way in ways for kind in way]
        self.assertEqual(len(set(named)), len(named), "the ways are apart")

    def assert_many(self, web, name, many):
        self.assert_cut(web, name)
        self.assertEqual(len(cut(web, name)[0]), many)

    def test_the_sun_in_its_own_need(self):
        web = web_of(a=SUN, b=any_of(A, SUN), c=any_of(C, any_of(B, any_of(SUN))))
        for name in "abc":
            self.assertIsNone(cut(web, name))

    def test_one_eats_one(self):
        self.assertEqual(cut(web_of(a=SUN, b=A), "b"), (["a"], [["a"]]))

    def test_who_does_not_live_is_cut_by_nobody(self):
        web = web_of(a=SUN, b=C, c=B, d=D, e=eats("strange"), f=any_of(B, D, eats("strange")))
        for name in "bcdef":
            self.assertEqual(cut(web, name), ([], []))

    def test_a_row_of_sixteen(self):
        for rows in (row_of_sixteen(), row_of_sixteen()[::-1]):
            web = web_by(rows)
            self.assertIsNone(cut(web, "a"))
            for place in range(1, 16):
                self.assert_many(web, SIXTEEN[place], 1)
                self.assertEqual(cut(web, SIXTEEN[place])[1], [SIXTEEN[:place][::-1]])

    def test_several_ways(self):
        web = web_of(x=any_of(A, B, C), a=SUN, b=D, c=D, d=SUN)
        self.assert_many(web, "x", 2)
        self.assert_many(web_of(x=any_of(A, B, C, D), a=SUN, b=SUN, c=SUN, d=SUN), "x", 4)

    def test_more_ways_than_a_need_has_parts(self):
        names = SIXTEEN[1:]
        four = [any_of(*eaters(names[place:place + 4])) for place in (0, 4, 8, 12)]
        web = web_by([("a", any_of(*four))] + [(name, SUN) for name in names])
        self.assert_many(web, "a", 15)
        self.assertEqual(cut(web, "a")[0], names)

    def test_all_ways_by_one_kind(self):
        self.assertEqual(cut(web_of(x=any_of(A, B), a=C, b=C, c=SUN), "x")[0], ["c"])
        self.assertEqual(cut(web_of(x=C, c=any_of(A, B), a=SUN, b=SUN), "x")[0], ["c"])
        self.assertEqual(cut(web_of(x=any_of(A, B), a=C, b=C, c=any_of(D, E), d=SUN, e=SUN), "x")[0], ["c"])

    def test_the_cut_stands_in_the_webs_order(self):
        self.assertEqual(cut(web_of(b=SUN, x=any_of(A, B, C), c=SUN, a=SUN), "x")[0], ["b", "c", "a"])

    def test_a_way_first_chosen_has_to_be_given_up(self):
        for order in itertools.permutations((("a", any_of(C, D)), ("b", C), ("c", any_of(E, F)), ("d", E))):
            for top in (any_of(A, B), any_of(B, A)):
                web = web_by([("x", top)] + list(order) + [("e", SUN), ("f", SUN)])
                self.assert_many(web, "x", 2)

    def test_no_way_by_the_kind_itself(self):
        web = web_of(x=A, a=any_of(eats("x"), B), b=any_of(eats("x"), SUN))
        self.assertEqual(cut(web, "x")[1], [["a", "b"]])
        self.assertEqual(cut(web_of(x=A, a=eats("x"), b=SUN), "x"), ([], []))
        self.assertEqual(cut(web_of(x=any_of(eats("x"), A), a=SUN), "x"), (["a"], [["a"]]))

    def test_a_way_may_pass_one_with_the_sun_in_its_need(self):
        web = web_of(x=any_of(A, B), a=any_of(SUN, C), b=A, c=SUN)
        self.assert_many(web, "x", 1)

    def test_kinds_that_eat_each_other_and_themselves(self):
        web = web_of(x=any_of(A, B), a=any_of(A, B, C), b=any_of(A, B, D), c=any_of(C, SUN), d=any_of(D, any_of(SUN)))
        self.assert_many(web, "x", 2)

    def test_names_that_the_web_does_not_have(self):
        web = web_of(x=any_of(eats("strange"), A, eats("other")), a=any_of(eats("strange"), SUN))
        self.assertEqual(cut(web, "x"), (["a"], [["a"]]))

    def test_kinds_called_like_the_programs_own_words(self):
        web = web_of(out=any_of(eats("in"), eats("some")), some=eats("eats"), eats=SUN, **{"in": SUN})
        self.assert_many(web, "out", 2)

    def test_not_plain(self):
        for need in NOT_PLAIN_NEEDS:
            web = web_of(a=SUN, b=A, far=need)
            for name in ("a", "b", "far"):
                with self.subTest(need=need, name=name):
                    self.assertRaises(NotPlain, cut, web, name)
                    self.assertEqual(held(web), [("a", SUN), ("b", A), ("far", need)])

    def test_no_kind_goes_ahead_of_not_plain(self):
        for name in UNKNOWN_NAMES + ["b"]:
            with self.subTest(name=name):
                self.assertRaises(NoKind, cut, web_of(a=all_of(B, SUN)), name)
                self.assertRaises(NoKind, cut, web_of(a=any_of(B, SUN)), name)
                self.assertRaises(NoKind, cut, Web(), name)

    def test_all_small_webs(self):
        for web in plain_small_webs():
            for name in web.kinds():
                self.assert_cut(web, name)

    def test_webs_by_chance(self):
        chance = Chance(9)
        for total in list(range(1, 17)) * 12:
            web = chance.web(total, 4, ("any",))
            for name in web.kinds():
                self.assert_cut(web, name)

    def test_webs_with_crossing_ways(self):
        for web in crossing_webs(Chance(10)):
            for name in web.kinds():
                self.assert_cut(web, name)

    def test_never_more_kinds_than_the_least_set_has(self):
        chance = Chance(11)
        for total in list(range(1, 8)) * 12:
            web = chance.web(total, 3, ("any",))
            for name in web.kinds():
                told, least = cut(web, name), felled(web, name)
                self.assertEqual(told is None, least is None)
                if told is not None:
                    self.assertEqual(len(told[0]), len(least))


class Felled(unittest.TestCase):
    def assert_felled(self, web, name):
        """Point 10, word by word: all sets of others gone through."""
        kinds = web.kinds()
        others = [kind for kind in kinds if kind != name]
        sets = [list(taken) for taken in sets_of(others) if name not in alive_without(web, taken)]
        least = min(sets, key=lambda taken: (len(taken), [kinds.index(kind) for kind in taken]), default=None)
        self.assertEqual(felled(web, name), least, (held(web), name))

    def test_who_does_not_live_is_felled_by_nobody(self):
        web = web_of(a=SUN, b=C, c=B, d=all_of(A, B), e=eats("strange"))
        for name in "bcde":
            self.assertEqual(felled(web, name), [])

    def test_no_set_does_it(self):
        web = web_of(a=SUN, b=any_of(A, SUN), c=all_of(SUN, any_of(SUN, A)), d=some_of(2, SUN, A, SUN, B))
        for name in "abcd":
            self.assertIsNone(felled(web, name))

    def test_alone(self):
        self.assertIsNone(felled(web_of(a=SUN), "a"))
        self.assertEqual(felled(web_of(a=A), "a"), [])

    def test_the_fewest(self):
        web = web_of(a=SUN, b=SUN, c=SUN, d=SUN, x=all_of(any_of(A, B), any_of(A, C), D))
        self.assertEqual(felled(web, "x"), ["d"])
        web = web_of(a=SUN, b=SUN, c=SUN, d=SUN, x=some_of(3, A, B, C, D))
        self.assertEqual(felled(web, "x"), ["a", "b"])

    def test_of_as_many_the_earlier_in_the_web(self):
        self.assertEqual(felled(web_of(c=SUN, a=SUN, b=SUN, x=all_of(A, B, C)), "x"), ["c"])
        self.assertEqual(felled(web_of(x=all_of(A, B), b=SUN, a=SUN), "x"), ["b"])
        self.assertEqual(felled(web_of(a=SUN, d=SUN, x=any_of(A, all_of(B, C)), c=D, b=D), "x"), ["a", "d"])
        web = web_of(d=SUN, c=SUN, b=SUN, a=SUN, x=any_of(all_of(A, D), all_of(B, C)))
        self.assertEqual(felled(web, "x"), ["d", "c"])

    def test_a_row_of_seven(self):
        web = web_by(row_of_sixteen()[:7])
        self.assertIsNone(felled(web, "a"))
        for name in "bcdefg":
            self.assertEqual(felled(web, name), ["a"])
        web = web_by(row_of_sixteen()[6::-1])
        self.assertEqual(felled(web, "c"), ["b"])

    def test_all_others_are_needed(self):
        web = web_of(a=SUN, b=SUN, c=SUN, d=SUN, e=SUN, f=SUN, g=any_of(any_of(F, E, D), any_of(A, B, C)))
        self.assertEqual(felled(web, "g"), list("abcdef"))

    def test_never_the_kind_itself(self):
        self.assertEqual(felled(web_of(x=any_of(eats("x"), A), a=SUN), "x"), ["a"])

    def test_seven_are_told_and_eight_refused(self):
        for need in (SUN, A, eats("strange"), all_of(A, B)):
            rows = [(name, need) for name in "abcdefg"]
            for name in "abcdefg":
                self.assert_felled(web_by(rows), name)
            for more in (["h"], list("hi"), list("hijklmnop")):
                web = web_by(rows + [(name, SUN) for name in more])
                before = held(web)
                for name in web.kinds():
                    self.assertRaises(TooLarge, felled, web, name)
                self.assertEqual(held(web), before)

    def test_eight_with_one_dropped_are_told(self):
        web = web_by(row_of_sixteen()[:8])
        web.drop("h")
        self.assertEqual(felled(web, "g"), ["a"])

    def test_no_kind_goes_ahead_of_too_large(self):
        for name in UNKNOWN_NAMES + ["z"]:
            with self.subTest(name=name):
                self.assertRaises(NoKind, felled, web_by(row_of_sixteen()), name)
                self.assertRaises(NoKind, felled, web_by(row_of_sixteen()[:8]), name)
                self.assertRaises(NoKind, felled, web_of(a=eats("z")), name)
                self.assertRaises(NoKind, felled, Web(), name)

    def test_webs_by_chance(self):
        chance = Chance(12)
        for total in list(range(1, 8)) * 14:
            web = chance.web(total)
            for name in web.kinds():
                self.assert_felled(web, name)

    def test_small_webs(self):
        needs = [SUN, A, any_of(B, C), all_of(A, D), some_of(2, B, C, D)]
        for chosen in itertools.product(needs, repeat=4):
            web = web_by(zip("dbca", chosen))
            self.assert_felled(web, "a")
            self.assert_felled(web, "b")

    def test_a_list(self):
        self.assertIs(type(felled(web_of(a=SUN, b=A), "b")), list)


if __name__ == "__main__":
    unittest.main()
