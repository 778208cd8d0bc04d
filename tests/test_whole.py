"""Over the whole program: the interface's names and arguments, and what points 1 and 5 promise of every function."""

import inspect
import unittest

from feedweb import cuts, errors, feeding, islands, needs, notes, web
from tests.helper import SUN, UNKNOWN_NAMES, all_of, any_of, eaters, eats, held, row_of_sixteen, some_of, web_by, web_of

A, B, C = eaters("abc")
INTERFACE = [
    (needs.names_of, ["need"]), (needs.is_met, ["need", "alive"]), (needs.ways_of, ["need"]),
    (web.Web, []), (web.Web.add, ["self", "name", "need"]), (web.Web.drop, ["self", "name"]),
    (web.Web.kinds, ["self"]), (web.Web.need_of, ["self", "name"]),
    (feeding.levels, ["web", "taken"]), (feeding.living, ["web", "taken"]), (feeding.hangs_on, ["web", "name"]),
    (cuts.is_plain, ["web"]), (cuts.cut, ["web", "name"]), (cuts.felled, ["web", "name"]),
    (islands.islands, ["web"]), (islands.joined, ["web", "other"]),
    (notes.shown, ["web"]), (notes.read, ["text"]),
]
PLAIN_ROWS = [("d", any_of(A, B)), ("a", any_of(C, SUN)), ("b", C), ("c", SUN), ("e", eats("strange")), ("f", eats("f"))]
MIXED_ROWS = PLAIN_ROWS[:4] + [("x", all_of(A, some_of(2, A, B, C)))]


def other_web():
    return web_of(y=SUN, z=eats("y"))


def askings():
    """Everything that is asked of a web, as a name and a function of the web."""
    yield "kinds", lambda asked: asked.kinds()
    yield "need_of", lambda asked: asked.need_of("d")
    yield "is_plain", cuts.is_plain
    yield "islands", islands.islands
    yield "shown", notes.shown
    yield "joined", lambda asked: held(islands.joined(asked, other_web()))
    yield "joined behind", lambda asked: held(islands.joined(other_web(), asked))
    for taken in ([], ["c"], ["b", "b"], ["a", "b", "c", "d"], ["strange"]):
        yield f"levels {taken}", lambda asked, taken=taken: feeding.levels(asked, list(taken))
        yield f"living {taken}", lambda asked, taken=taken: feeding.living(asked, list(taken))
    for name in ("a", "b", "d", "f", "x", "strange"):
        yield f"hangs_on {name}", lambda asked, name=name: feeding.hangs_on(asked, name)
        yield f"cut {name}", lambda asked, name=name: cuts.cut(asked, name)
        yield f"felled {name}", lambda asked, name=name: cuts.felled(asked, name)


def answer(asking, asked):
    """What is told, or the class of the refusal."""
    try:
        return asking(asked)
    except errors.FeedError as error:
        return type(error)


def spoil(told):
    """Changes all of what was told that can be changed."""
    if isinstance(told, (list, tuple)):
        for part in told:
            spoil(part)
    if isinstance(told, list):
        told.reverse()
        told.append("spoiled")


def lists_in(told):
    if isinstance(told, list):
        yield told
    if isinstance(told, (list, tuple)):
        for part in told:
            yield from lists_in(part)


class Interface(unittest.TestCase):
    def test_names_and_arguments(self):
        for function, arguments in INTERFACE:
            with self.subTest(function=function):
                self.assertEqual(list(inspect.signature(function).parameters), arguments)

    def test_each_argument_by_its_name(self):
        asked = web_of(a=SUN)
        self.assertEqual(feeding.living(web=asked, taken=[]), ["a"])
        self.assertIsNone(cuts.cut(web=asked, name="a"))
        self.assertEqual(notes.shown(islands.joined(web=asked, other=notes.read(text=""))), "a: sun")


class NothingHandedInIsChanged(unittest.TestCase):
    def test_the_web(self):
        for rows in (PLAIN_ROWS, MIXED_ROWS, row_of_sixteen(), []):
            for label, asking in askings():
                with self.subTest(asking=label, rows=rows):
                    asked = web_by(rows)
                    answer(asking, asked)
                    self.assertEqual(held(asked), rows)

    def test_the_list_of_those_taken(self):
        for deed in (feeding.levels, feeding.living):
            for taken in ([], ["c"], ["b", "a", "b"], ["b", "strange", "a"]):
                handed = list(taken)
                answer(lambda asked: deed(asked, handed), web_by(PLAIN_ROWS))
                self.assertEqual(handed, taken)

    def test_the_second_web(self):
        asked, other = web_by(PLAIN_ROWS), other_web()
        islands.joined(asked, other)
        self.assertEqual((held(asked), held(other)), (PLAIN_ROWS, held(other_web())))


class WhatIsToldIsTheAskersOwn(unittest.TestCase):
    def test_spoiling_it_changes_no_later_answer(self):
        for rows in (PLAIN_ROWS, MIXED_ROWS, row_of_sixteen()):
            for label, asking in askings():
                with self.subTest(asking=label, rows=rows):
                    asked = web_by(rows)
                    spoil(answer(asking, asked))
                    self.assertEqual(held(asked), rows)
                    self.assertEqual(answer(asking, asked), answer(asking, web_by(rows)))

    def test_no_two_lists_told_are_one(self):
        for rows in (PLAIN_ROWS, MIXED_ROWS, row_of_sixteen()):
            for label, asking in askings():
                told = list(lists_in(answer(asking, web_by(rows))))
                self.assertEqual(len({id(one) for one in told}), len(told), label)

    def test_the_list_told_is_not_the_one_handed_in(self):
        taken = []
        self.assertIsNot(feeding.living(web_of(a=A), taken), taken)
        self.assertIsNot(feeding.levels(web_of(), taken), taken)

    def test_what_was_told_stays_where_the_web_changes(self):
        for label, asking in askings():
            asked = web_by(PLAIN_ROWS)
            told = answer(asking, asked)
            asked.drop("d")
            asked.add("new", all_of(A, B))
            asked.drop("a")
            self.assertEqual(told, answer(asking, web_by(PLAIN_ROWS)), label)

    def test_nothing_hangs_on_what_was_asked_ahead(self):
        asked = web_by(PLAIN_ROWS)
        for label, asking in askings():
            self.assertEqual(answer(asking, asked), answer(asking, web_by(PLAIN_ROWS)), label)
        asked.add("x", MIXED_ROWS[-1][1])
        asked.drop("e")
        asked.drop("f")
        for label, asking in askings():
            self.assertEqual(answer(asking, asked), answer(asking, web_by(MIXED_ROWS)), label)

    def test_the_list_handed_in_may_be_changed_later(self):
        asked, taken = web_by(PLAIN_ROWS), ["c"]
        told = feeding.levels(asked, taken), feeding.living(asked, taken)
        taken.append("a")
        self.assertEqual(told, (feeding.levels(asked, ["c"]), feeding.living(asked, ["c"])))


class AskingForAKindThatTheWebDoesNotHave(unittest.TestCase):
    def test_each_function(self):
        deeds = [lambda asked, name: asked.drop(name), lambda asked, name: asked.need_of(name), feeding.hangs_on,
                 cuts.cut, cuts.felled, lambda asked, name: feeding.levels(asked, [name]),
                 lambda asked, name: feeding.living(asked, [name])]
        for deed in deeds:
            for rows in (PLAIN_ROWS, MIXED_ROWS, row_of_sixteen(), []):
                for name in UNKNOWN_NAMES + ["strange", "D", "d "]:
                    asked = web_by(rows)
                    told = answer(lambda handed: deed(handed, name), asked)
                    self.assertIs(told, errors.NoKind, (rows, name))
                    self.assertEqual(held(asked), rows)


if __name__ == "__main__":
    unittest.main()
