"""Points 1 to 4: the names of a need, when it is met, and its ways."""

import itertools
import unittest

from feedweb.errors import TooLarge
from feedweb.needs import is_met, names_of, ways_of
from tests.helper import SUN, all_of, any_of, eaters, eats, groups, meets, sets_of, some_of

A, B, C, D, E, F, G, H = eaters("abcdefgh")
FOX = any_of(eats("hare"), some_of(2, eats("egg"), eats("mouse"), all_of(eats("vole"), SUN)))
DEEPEST = any_of(all_of(some_of(1, any_of(B, A), C), A), D)


def needs_of_two_layers():
    """Groups of 1 to 4 parts: the sun and eaters, a name twice and names out of the alphabet's order among them."""
    for total in (1, 2, 3, 4):
        for parts in itertools.product((SUN, B, A, C), repeat=total):
            yield from groups(parts)


def needs_of_three_layers():
    inner = [SUN, D, all_of(C, A), any_of(B, C), some_of(2, A, B, C), all_of(SUN, B), some_of(2, D, E, F, A)]
    for total in (1, 2, 3):
        for parts in itertools.product(inner, repeat=total):
            yield from groups(parts)


def needs_of_more_layers():
    inner = [DEEPEST, FOX, some_of(3, all_of(A, B), any_of(C, D), E, SUN), eats("z")]
    for total in (1, 2):
        for parts in itertools.product(inner, repeat=total):
            yield from groups(parts)


def all_needs():
    return itertools.chain([SUN, A], needs_of_two_layers(), needs_of_three_layers(), needs_of_more_layers())


def names_by_text(need):
    """Another way to the names: the texts of the need from the left, each behind the word eats."""
    flat = repr(need).replace("(", " ").replace(")", " ").replace(",", " ").split()
    behind_eats = [text.strip("'") for word, text in zip(flat, flat[1:]) if word == "'eats'"]
    return list(dict.fromkeys(behind_eats))


def ways_by_all_sets(need):
    """Point 4, word by word: all sets gone through, then put in order."""
    names = names_by_text(need)
    meeting = [frozenset(chosen) for chosen in sets_of(names) if meets(need, chosen)]
    least = [one for one in meeting if not any(other < one for other in meeting)]
    ways = [[name for name in names if name in one] for one in least]
    return sorted(ways, key=lambda way: (len(way), [names.index(name) for name in way]))


class NamesOf(unittest.TestCase):
    def test_each_kind_of_need(self):
        self.assertEqual(names_of(SUN), [])
        self.assertEqual(names_of(eats("fox")), ["fox"])
        self.assertEqual(names_of(any_of(B, A)), ["b", "a"])
        self.assertEqual(names_of(all_of(C, A, B)), ["c", "a", "b"])
        self.assertEqual(names_of(some_of(2, D, C, B, A)), ["d", "c", "b", "a"])

    def test_one_to_four_parts(self):
        for letters in ("d", "dc", "dca", "dcab"):
            for need in groups(eaters(letters)):
                with self.subTest(need=need):
                    self.assertEqual(names_of(need), list(letters))

    def test_several_layers_from_the_left(self):
        self.assertEqual(names_of(FOX), ["hare", "egg", "mouse", "vole"])
        self.assertEqual(names_of(DEEPEST), ["b", "a", "c", "d"])
        self.assertEqual(names_of(any_of(all_of(B, any_of(C)), A)), ["b", "c", "a"])

    def test_each_name_once_as_it_first_stands(self):
        self.assertEqual(names_of(any_of(B, A, B)), ["b", "a"])
        self.assertEqual(names_of(all_of(any_of(C, B), A, any_of(B, A, C, D))), ["c", "b", "a", "d"])

    def test_a_need_without_names(self):
        self.assertEqual(names_of(all_of(SUN, any_of(SUN), some_of(1, SUN, SUN))), [])

    def test_more_than_six_names_are_told(self):
        self.assertEqual(names_of(any_of(all_of(H, G, F, E), all_of(D, C, B, A))), list("hgfedcba"))

    def test_many_needs(self):
        for need in all_needs():
            self.assertEqual(names_of(need), names_by_text(need), need)

    def test_the_list_told_is_the_askers_own(self):
        for need, told in ((SUN, []), (A, ["a"]), (any_of(B, A), ["b", "a"])):
            names = names_of(need)
            names.append("other")
            names.reverse()
            self.assertEqual(names_of(need), told)

    def test_a_list(self):
        for need in (SUN, A, FOX):
            self.assertIs(type(names_of(need)), list)


class IsMet(unittest.TestCase):
    def test_sun(self):
        self.assertIs(is_met(SUN, []), True)
        self.assertIs(is_met(SUN, ["fox"]), True)

    def test_eats(self):
        self.assertIs(is_met(eats("fox"), []), False)
        self.assertIs(is_met(eats("fox"), ["hare"]), False)
        self.assertIs(is_met(eats("fox"), ["fo", "foxes"]), False)
        self.assertIs(is_met(eats("fox"), ["hare", "fox"]), True)

    def test_any(self):
        need = any_of(A, B, C)
        self.assertIs(is_met(need, []), False)
        self.assertIs(is_met(need, ["d"]), False)
        self.assertIs(is_met(need, ["c"]), True)
        self.assertIs(is_met(need, ["a", "b", "c"]), True)

    def test_all(self):
        need = all_of(A, B, C)
        self.assertIs(is_met(need, []), False)
        self.assertIs(is_met(need, ["a", "b"]), False)
        self.assertIs(is_met(need, ["c", "b", "a"]), True)

    def test_some_at_just_so_many_one_less_one_more(self):
        need = some_of(2, A, B, C, D)
        self.assertIs(is_met(need, []), False)
        self.assertIs(is_met(need, ["d"]), False)
        self.assertIs(is_met(need, ["d", "a"]), True)
        self.assertIs(is_met(need, ["c", "a", "b"]), True)
        self.assertIs(is_met(need, ["a", "b", "c", "d"]), True)

    def test_some_from_one_to_all_parts(self):
        for number in (1, 2, 3, 4):
            for many in (0, 1, 2, 3, 4):
                with self.subTest(number=number, many=many):
                    met = is_met(some_of(number, A, B, C, D), ["d", "c", "b", "a"][:many])
                    self.assertIs(met, many >= number)

    def test_some_counts_parts_and_not_names(self):
        self.assertIs(is_met(some_of(2, A, A, B), ["a"]), True)
        self.assertIs(is_met(some_of(2, all_of(A, B), C, D), ["a", "b"]), False)
        self.assertIs(is_met(some_of(2, SUN, A), []), False)
        self.assertIs(is_met(some_of(2, SUN, A, SUN), []), True)

    def test_a_name_alive_twice_is_alive_once(self):
        self.assertIs(is_met(some_of(2, A, B), ["a", "a"]), False)

    def test_nested(self):
        self.assertIs(is_met(FOX, []), False)
        self.assertIs(is_met(FOX, ["hare"]), True)
        self.assertIs(is_met(FOX, ["vole"]), False)
        self.assertIs(is_met(FOX, ["vole", "egg"]), True)
        self.assertIs(is_met(DEEPEST, ["a"]), True)
        self.assertIs(is_met(DEEPEST, ["b", "c"]), False)

    def test_many_needs_by_all_sets_in_any_order_and_with_a_strange_name(self):
        for need in all_needs():
            for chosen in sets_of(names_by_text(need)):
                told = meets(need, chosen)
                self.assertIs(is_met(need, list(chosen)), told, (need, chosen))
                self.assertIs(is_met(need, ["strange"] + list(reversed(chosen))), told, (need, chosen))

    def test_the_list_handed_in_stays_as_it_is(self):
        for need in (SUN, A, FOX, all_of(B, A), some_of(1, B, A)):
            alive = ["b", "strange", "a", "b"]
            is_met(need, alive)
            self.assertEqual(alive, ["b", "strange", "a", "b"])

    def test_nothing_hangs_on_the_list_handed_in(self):
        alive = ["a"]
        self.assertIs(is_met(all_of(A, B), alive), False)
        alive.append("b")
        self.assertIs(is_met(all_of(A, B), alive), True)
        alive.clear()
        self.assertIs(is_met(all_of(A, B), alive), False)

    def test_somewhat_beyond_the_bounds_is_not_refused(self):
        six_deep = any_of(all_of(any_of(all_of(any_of(all_of(A, B))))))
        self.assertIs(is_met(six_deep, ["b", "a"]), True)
        self.assertIs(is_met(six_deep, ["b"]), False)
        self.assertIs(is_met(some_of(3, A, B), ["a", "b"]), False)
        self.assertIs(is_met(some_of(5, A, B, C, D, E), ["e", "d", "c", "b", "a"]), True)


class WaysOf(unittest.TestCase):
    def test_each_kind_of_need(self):
        self.assertEqual(ways_of(eats("fox")), [["fox"]])
        self.assertEqual(ways_of(any_of(B, A)), [["b"], ["a"]])
        self.assertEqual(ways_of(all_of(B, A)), [["b", "a"]])
        self.assertEqual(ways_of(some_of(2, C, A, B)), [["c", "a"], ["c", "b"], ["a", "b"]])

    def test_met_by_nobody_alive(self):
        for need in (SUN, any_of(A, SUN), all_of(SUN, any_of(SUN, B)), some_of(2, SUN, A, SUN, B)):
            with self.subTest(need=need):
                self.assertEqual(ways_of(need), [[]])

    def test_fewer_names_first(self):
        self.assertEqual(ways_of(any_of(all_of(A, B, C), all_of(D, A), E)), [["e"], ["a", "d"], ["a", "b", "c"]])

    def test_by_the_first_place_at_which_two_lists_part(self):
        self.assertEqual(ways_of(all_of(any_of(D, C), any_of(B, A))),
                         [["d", "b"], ["d", "a"], ["c", "b"], ["c", "a"]])

    def test_a_way_stands_in_the_order_of_the_names(self):
        self.assertEqual(ways_of(any_of(all_of(C, B, A), all_of(A, C))), [["c", "a"]])

    def test_no_way_holds_another(self):
        self.assertEqual(ways_of(any_of(A, all_of(A, B))), [["a"]])
        self.assertEqual(ways_of(any_of(all_of(A, B, C), all_of(B, C))), [["b", "c"]])

    def test_nested(self):
        self.assertEqual(ways_of(FOX), [["hare"], ["egg", "mouse"], ["egg", "vole"], ["mouse", "vole"]])

    def test_many_needs_against_all_sets(self):
        for need in all_needs():
            if len(names_by_text(need)) <= 6:
                self.assertEqual(ways_of(need), ways_by_all_sets(need), need)

    def test_six_names_are_told(self):
        for inner in (any_of, all_of):
            for outer in groups((inner(F, B, D), inner(A, E, C))):
                with self.subTest(need=outer):
                    self.assertEqual(ways_of(outer), ways_by_all_sets(outer))

    def test_six_names_in_more_than_six_places_are_told(self):
        need = all_of(any_of(F, E, D, C), any_of(B, A, F, E), some_of(2, A, B, C, D))
        self.assertEqual(ways_of(need), ways_by_all_sets(need))

    def test_seven_and_eight_names_are_refused(self):
        for need in (any_of(all_of(A, B, C, D), all_of(E, F, G)),
                     all_of(any_of(A, B, C, D), any_of(E, F, G, H)),
                     any_of(SUN, any_of(A, B, C, D), any_of(E, F, G))):
            with self.subTest(need=need):
                self.assertRaises(TooLarge, ways_of, need)

    def test_the_lists_told_are_the_askers_own(self):
        for need in (SUN, A, FOX):
            before = ways_by_all_sets(need)
            told = ways_of(need)
            for way in told:
                way.append("other")
            told.append(["other"])
            self.assertEqual(ways_of(need), before)

    def test_no_two_lists_told_are_one(self):
        told = ways_of(FOX)
        told[0].append("other")
        self.assertEqual(told[1:], ways_by_all_sets(FOX)[1:])

    def test_lists(self):
        for need in (SUN, A, FOX):
            told = ways_of(need)
            self.assertIs(type(told), list)
            self.assertEqual([type(way) for way in told], [list] * len(told))

    def test_a_need_that_nothing_meets_has_no_way(self):
        self.assertEqual(ways_of(some_of(3, A, B)), [])


if __name__ == "__main__":
    unittest.main()
