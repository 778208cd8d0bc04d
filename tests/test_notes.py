"""Point 13: webs written and read, and what is refused with NoNote."""

import itertools
import re
import unittest

from feedweb.errors import NoNote
from feedweb.feeding import living
from feedweb.notes import read, shown
from feedweb.web import Web
from tests.helper import (SIXTEEN, SUN, Chance, all_of, any_of, eaters, eats, groups, held, row_of_sixteen, some_of,
                          web_by, web_of)

A, B, C, D, E = eaters("abcde")
FOX = any_of(eats("hare"), some_of(2, eats("egg"), eats("mouse"), all_of(eats("vole"), SUN)))
FOX_LINE = "fox: any(hare 2of(egg mouse all(vole sun)))"
# Every sign that a text to be read may have.
SIGNS = ["\t", "\n"] + [chr(number) for number in range(ord(" "), ord("~") + 1) if chr(number) != "%"]
INNERMOST = re.compile(r"(?<![^ (])(any|all|[1-4]of)\((<\d+,\d+>(?: <\d+,\d+>){0,3})\)")
KEPT_WORDS = ("any", "all", "of", "sun")


def four(part):
    return any_of(part, part, part, part)


def deep(depth):
    return A if depth == 1 else any_of(deep(depth - 1))


def bush(leaves):
    """A need four deep with at most four parts each: 21 knots and one for each leaf."""
    return any_of(four(A), four(B), four(C), all_of(D, E, SUN, any_of(*leaves)))


def tall_bush(leaves):
    """A need five deep with at most four parts each: 21 knots and one for each leaf."""
    return some_of(2, any_of(A, B), all_of(any_of(four(B), C, D), E, four(SUN)), SUN, any_of(*leaves))


def knots_of(need):
    """Each knot is written with one word."""
    return len(re.findall("[a-z0-9]+", shown(web_of(a=need))[3:]))


def is_name(text):
    return re.fullmatch("[a-z]{1,8}", text) is not None and text not in KEPT_WORDS


def leaf_or_word(match):
    word, sign_behind = match.group(), match.string[match.end():match.end() + 1]
    if sign_behind == "(":
        return word
    return "<1,1>" if word == "sun" or is_name(word) else "!"


def group_or_nothing(match):
    sizes = [size.split(",") for size in re.findall("<(.*?)>", match.group(2))]
    number = match.group(1)[:-2]
    if number.isdigit() and int(number) > len(sizes):
        return "!"
    knots = 1 + sum(int(size[0]) for size in sizes)
    depth = 1 + max(int(size[1]) for size in sizes)
    return f"<{knots},{depth}>"


def is_need_text(text):
    """Point 13 another way: leaves, then the innermost brackets again and again made into <knots,depth>."""
    if re.search("[<>,!]", text):
        return False
    old, new = None, re.sub("[^ ()]+", leaf_or_word, text)
    while old != new:
        old, new = new, INNERMOST.sub(group_or_nothing, new)
    size = re.fullmatch(r"<(\d+),(\d+)>", new)
    return size is not None and int(size.group(1)) <= 24 and int(size.group(2)) <= 5


def is_note(text):
    if text == "":
        return True
    lines = [line.partition(": ") for line in text.split("\n")]
    names = [name for name, colon, need in lines]
    return (len(set(names)) == len(names) <= 16 and all(is_name(name) for name in names)
            and all(is_need_text(need) for name, colon, need in lines))


class NotesCase(unittest.TestCase):
    def assert_refused(self, text):
        """Refused with NoNote, and with nothing else."""
        try:
            web = read(text)
        except Exception as error:
            self.assertIs(type(error), NoNote, repr(text))
        else:
            self.fail(f"read as {held(web)!r}: {text!r}")

    def assert_read(self, text, *rows):
        web = read(text)
        self.assertIs(type(web), Web)
        self.assertEqual(held(web), list(rows))
        self.assertEqual(shown(web), text)

    def assert_as_told(self, text):
        if is_note(text):
            self.assertEqual(shown(read(text)), text)
        else:
            self.assert_refused(text)

    def assert_written_and_read(self, web):
        text = shown(web)
        self.assertTrue(is_note(text), text)
        self.assertEqual(held(read(text)), held(web))


class Shown(NotesCase):
    def test_no_kinds(self):
        self.assertEqual(shown(Web()), "")

    def test_each_form(self):
        self.assertEqual(shown(web_of(a=SUN)), "a: sun")
        self.assertEqual(shown(web_of(a=eats("grass"))), "a: grass")
        self.assertEqual(shown(web_of(a=any_of(B, SUN))), "a: any(b sun)")
        self.assertEqual(shown(web_of(a=all_of(B, C, D))), "a: all(b c d)")
        self.assertEqual(shown(web_of(a=some_of(2, B, C, D, SUN))), "a: 2of(b c d sun)")

    def test_one_part(self):
        self.assertEqual(shown(web_of(a=any_of(B), b=all_of(SUN), c=some_of(1, A))), "a: any(b)\nb: all(sun)\nc: 1of(a)")

    def test_the_documents_line(self):
        self.assertEqual(shown(web_of(fox=FOX)), FOX_LINE)

    def test_a_line_for_each_kind_in_the_webs_order(self):
        self.assertEqual(shown(web_of(hare=SUN, fox=FOX, ape=eats("fox"))), f"hare: sun\n{FOX_LINE}\nape: fox")

    def test_kinds_called_like_forms(self):
        self.assertEqual(shown(web_of(eats=SUN, some=any_of(eats("eats"), eats("some")))),
                         "eats: sun\nsome: any(eats some)")

    def test_a_need_somewhat_beyond_the_bounds_is_written_all_the_same(self):
        self.assertEqual(shown(web_of(a=any_of(*eaters("bcdef")))), "a: any(b c d e f)")
        self.assertEqual(shown(web_of(a=some_of(12, B))), "a: 12of(b)")
        self.assertEqual(shown(web_of(a=deep(7))), "a: any(any(any(any(any(any(a))))))")

    def test_a_text(self):
        self.assertIs(type(shown(Web())), str)
        self.assertIs(type(shown(web_of(a=SUN))), str)


class Read(NotesCase):
    def test_no_kinds(self):
        self.assert_read("")

    def test_each_form(self):
        self.assert_read("a: sun", ("a", SUN))
        self.assert_read("a: grass", ("a", eats("grass")))
        self.assert_read("a: any(b sun)", ("a", any_of(B, SUN)))
        self.assert_read("a: all(b c d)", ("a", all_of(B, C, D)))
        self.assert_read("a: 2of(b c d sun)", ("a", some_of(2, B, C, D, SUN)))
        self.assert_read(FOX_LINE, ("fox", FOX))

    def test_several_lines(self):
        self.assert_read(f"hare: sun\n{FOX_LINE}\nape: fox", ("hare", SUN), ("fox", FOX), ("ape", eats("fox")))

    def test_kinds_called_like_forms(self):
        self.assert_read("eats: sun\nsome: any(eats some)", ("eats", SUN), ("some", any_of(eats("eats"), eats("some"))))

    def test_names_near_the_words_that_are_kept(self):
        for name in ("anya", "al", "alls", "o", "off", "su", "suns", "abcdefgh", "z", "a"):
            self.assert_read(f"{name}: any({name} sun)", (name, any_of(eats(name), SUN)))

    def test_a_part_of_any_form_at_each_place(self):
        for parts in itertools.product((SUN, A, any_of(B), some_of(1, C, SUN)), repeat=3):
            for need in groups(parts):
                self.assert_written_and_read(web_of(fox=need))

    def test_the_number_of_some(self):
        for total in (1, 2, 3, 4):
            names = "abcd"[:total]
            written = " ".join(names)
            for number in range(1, total + 1):
                self.assert_read(f"a: {number}of({written})", ("a", some_of(number, *eaters(names))))
            for number in (0, total + 1, total + 2, 5, 9, 10, 11, 44, 10 ** 20):
                self.assert_refused(f"a: {number}of({written})")

    def test_a_number_with_noughts_ahead_or_none_or_more_than_a_number(self):
        for number in ("01", "00", "001", "", "-1", "+1", "1.0", "1 ", " 1", "1_", "a", "a1", "1a", "1of1", "one", "0x1"):
            self.assert_refused(f"a: {number}of(b c)")

    def test_a_number_of_thousands_of_signs(self):
        for sign in "0129":
            for many in (4300, 4301, 5900):
                self.assert_refused(f"a: {sign * many}of(b c)")
                self.assert_refused(f"a: {'0' * many}{sign}of(b c)")

    def test_one_to_four_parts(self):
        for word in ("any", "all", "1of"):
            self.assert_refused(f"a: {word}()")
            self.assert_refused(f"a: {word}( )")
            for total in (1, 2, 3, 4):
                self.assertEqual(len(read(f"a: {word}({' '.join('bcde'[:total])})").need_of("a")[-1]), total)
            self.assert_refused(f"a: {word}(b c d e f)")
            self.assert_refused(f"a: any(b {word}(b c d e f))")
            self.assert_refused(f"a: {word}({' '.join('b' * 2900)})")

    def test_depth(self):
        for depth in (1, 2, 3, 4, 5):
            self.assert_written_and_read(web_of(a=deep(depth)))
            self.assert_written_and_read(web_of(a=any_of(SUN, B, C, deep(depth - 1)) if depth > 1 else SUN))
        for depth in (6, 7, 8, 20, 51):
            self.assert_refused("a: " + "any(" * (depth - 1) + "b" + ")" * (depth - 1))
            self.assert_refused("a: " + "2of(sun " * (depth - 1) + "b" + ")" * (depth - 1))
            self.assert_refused("a: any(b " + "any(" * (depth - 2) + "b" + ")" * (depth - 2) + ")")

    def test_knots(self):
        for grown in (bush, tall_bush):
            for total in (1, 2, 3):
                need = grown(eaters("abc"[:total]))
                self.assertEqual(knots_of(need), 21 + total)
                self.assert_written_and_read(web_of(a=need))
                self.assert_written_and_read(web_of(a=SUN, b=need, c=need))
            for leaves in ([A, B, C, D], [A, B, all_of(C)], [A, B, C, any_of(D)]):
                need = grown(leaves)
                self.assertGreaterEqual(knots_of(need), 25)
                self.assert_refused(shown(web_of(a=need)))
                self.assert_refused(shown(web_of(a=SUN, b=need)))

    def test_more_than_enough_knots(self):
        for need in (four(four(four(SUN))), four(four(four(four(SUN)))), all_of(*[four(four(A))] * 2)):
            self.assert_refused(shown(web_of(a=need)))

    def test_a_name_twice(self):
        self.assert_refused("a: sun\na: sun")
        self.assert_refused("a: sun\nb: a\na: b")
        self.assert_refused("a: sun\nb: a\nb: any(a sun)")

    def test_sixteen_kinds_and_seventeen(self):
        rows = row_of_sixteen()
        text = shown(web_by(rows))
        self.assert_read(text, *rows)
        self.assert_refused(text + "\nq: sun")
        self.assert_refused(text + "\na: sun")
        self.assert_refused("\n".join(f"{one}{two}: sun" for one in SIXTEEN for two in SIXTEEN))

    def test_line_ends(self):
        for text in ("\n", "\n\n", "a: sun\n", "\na: sun", "a: sun\n\nb: sun", "a: sun\n\n", "a:\nsun", "a: any(b\nc)",
                     "a: any(b \nc)", "a: sun\n ", " \na: sun", "a: sun\n\t", "a\n: sun", "a: \nsun"):
            self.assert_refused(text)

    def test_blanks_and_tabs(self):
        for text in (" ", "\t", " a: sun", "a : sun", "a:sun", "a:  sun", "a: sun ", "a:\tsun", "a: \tsun", "a: sun\t",
                     "\ta: sun", "a: any (b)", "a: any( b)", "a: any(b )", "a: any(b  c)", "a: any(b\tc)", "a: any(b)  ",
                     "a: any(b c) ", "a: 1 of(b)", "a: 1of (b)", "a: 1of( b)", "a: any(b ) c)", "a: su n", "a b: sun"):
            self.assert_refused(text)

    def test_brackets(self):
        for text in ("a: (b)", "a: any", "a: all", "a: of", "a: any(", "a: any)", "a: any(b", "a: any b)", "a: anyb)",
                     "a: any(b))", "a: any((b))", "a: any(b)(c)", "a: any(b) c", "a: any(b) any(c)", "a: any(b)any(c)",
                     "a: any(b)c", "a: any(b any(c)", "a: any(b any(c)d)", "a: any(b c any(d) e)f)", "a: )", "a: (",
                     "a: ()", "a: )b(", "a: any)b(", "a: any(b)c)", "a: any(b) (c)", "a: any(b any(c) (d))", "a: 1of",
                     "a: 1of(", "a: 1of(b", "a: of(b)", "a: sun()", "a: sun(b)", "a: b()", "a: b(c)", "a: any(any)",
                     "a: any(of b)", "a: any(1of b)", "a: any[b]", "a: any(b,c)", "a: any(b, c)", "a: some(b)",
                     "a: some(1 b)", "a: eats(b)", "a: eats b", "a: any(a)) any((b)"):
            self.assert_refused(text)

    def test_names(self):
        for name in KEPT_WORDS + ("", "A", "Fox", "abcdefghi", "a1", "1", "a-b", "a_b", "a.", "'a'", '"a"', "a:", ":"):
            self.assert_refused(f"{name}: sun")
            if name != "sun":
                self.assert_refused(f"a: {name}")
                self.assert_refused(f"a: any({name})")
                self.assert_refused(f"a: all(b {name} c)")

    def test_words_in_upper_case(self):
        for text in ("a: Sun", "a: SUN", "a: Any(b)", "a: ALL(b)", "a: 1OF(b)", "a: 1Of(b)", "A: sun"):
            self.assert_refused(text)

    def test_colons(self):
        for text in ("a", "a:", "a: ", ": ", ":", ": sun", "a sun", "a; sun", "a:: sun", "a: : sun", "a: b: sun", "sun",
                     "a: sun: b", "a: any(b: c)", "any(b)", "a = sun", "a: any(b:)"):
            self.assert_refused(text)

    def test_one_bad_line_among_good_ones(self):
        for lines in itertools.permutations(("a: sun", "b: any(a sun)", "c: any(a  sun)")):
            self.assert_refused("\n".join(lines))

    def test_texts_as_long_and_with_as_many_brackets_as_there_may_be(self):
        fifty = "any(" * 50
        for line in (fifty, fifty + ")" * 50, fifty + "sun" + ")" * 50, "(" * 50, "any( " * 50, "any(a " * 50 + ")" * 50):
            self.assert_refused("a: " + line)
            self.assert_refused("\n".join(f"{name}: {line}" for name in "abcdefgh"))
        for sign in SIGNS:
            if sign != "(":
                self.assert_refused(sign * 6000)
                self.assert_refused(("a: any(" + sign * 6000)[:6000])
        self.assert_refused("a: sun\n" * 850)
        self.assert_refused(("a: any(" + "b " * 3000)[:5999] + ")")


class AgainstAnotherReader(NotesCase):
    """Every text is read where is_note says so, and written the same again; else it is refused with NoNote."""

    def test_the_other_reader(self):
        self.assertTrue(is_note(FOX_LINE))
        self.assertTrue(is_note(f"a: sun\n{FOX_LINE}\nb: 2of(a b)"))
        for text in ("a: 2of(b)", "a: any(b  c)", "a: any()", "a: any(b c d e f)", "a: sun\na: sun", "\n", "a: of"):
            self.assertFalse(is_note(text))

    def test_each_sign_left_out_put_in_or_put_in_the_place_of_another(self):
        for text in ("a: sun\nb: 2of(a sun)", FOX_LINE, "ab: all(c any(sun))", "a: b\nb: a"):
            for place in range(len(text) + 1):
                self.assert_as_told(text[:place] + text[place + 1:])
                for sign in SIGNS:
                    self.assert_as_told(text[:place] + sign + text[place:])
                    self.assert_as_told(text[:place] + sign + text[place + 1:])

    def test_two_signs_that_change_places(self):
        text = f"{FOX_LINE}\nhare: 1of(sun)"
        for one, other in itertools.combinations(range(len(text)), 2):
            signs = list(text)
            signs[one], signs[other] = signs[other], signs[one]
            self.assert_as_told("".join(signs))

    def test_a_text_cut_off_anywhere(self):
        text = f"{FOX_LINE}\nhare: 1of(sun)\negg: all(hare any(sun fox) egg)"
        for start, end in itertools.combinations(range(len(text) + 1), 2):
            self.assert_as_told(text[start:end])
            self.assert_as_told(text[:start] + text[end:])

    def test_all_short_rows_of_words(self):
        for total in range(6):
            for words in itertools.product(("any(", "2of(", "1of(", ")", " ", "a", "sun"), repeat=total):
                self.assert_as_told("a: " + "".join(words))

    def test_rows_of_words_by_chance(self):
        chance = Chance(14)
        words = ["any(", "all(", "3of(", "2of(", "(", ")", ")", " ", " ", "a", "b", "sun", "of", "\n", ": ", "\nb: ", "0"]
        for turn in range(20000):
            self.assert_as_told("a: " + "".join(chance.one_of(words) for place in range(chance.below(14))))


class WrittenAndRead(NotesCase):
    def test_webs_by_chance(self):
        chance = Chance(15)
        for total in list(range(17)) * 20:
            rows = []
            while len(rows) < total:
                need = chance.need(SIXTEEN + ["strange", "abcdefgh", "some", "eats"], 1 + chance.below(5))
                if is_need_text(shown(web_of(a=need))[3:]):
                    rows.append((SIXTEEN[len(rows)], need))
            self.assert_written_and_read(web_by(rows))

    def test_needs_by_chance_also_beyond_the_bounds(self):
        chance = Chance(16)
        for turn in range(3000):
            self.assert_as_told(shown(web_of(a=chance.need(SIXTEEN, 1 + chance.below(7)))))

    def test_a_web_that_was_read_is_a_web_like_any_other(self):
        web = read("b: a\na: sun")
        self.assertEqual(living(web, []), ["b", "a"])
        web.drop("b")
        web.add("c", all_of(A, B))
        self.assertEqual(shown(web), "a: sun\nc: all(a b)")

    def test_a_text_read_twice_is_read_to_two_webs(self):
        one, other = read("a: sun"), read("a: sun")
        one.drop("a")
        self.assertEqual((shown(one), shown(other)), ("", "a: sun"))


if __name__ == "__main__":
    unittest.main()
