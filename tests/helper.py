"""What several tests share: needs and webs that are quickly written, and points 3 and 6 word by word."""

import itertools
import random

from feedweb.web import Web

SUN = ("sun",)
SIXTEEN = list("abcdefghijklmnop")
UNKNOWN_NAMES = ["hare", "", "Fox", "sun", "any", "abcdefghi", "fo", "a b", "~"]


def eats(name):
    return ("eats", name)


def any_of(*parts):
    return ("any", parts)


def all_of(*parts):
    return ("all", parts)


def some_of(number, *parts):
    return ("some", number, parts)


def eaters(names):
    return tuple(eats(name) for name in names)


def groups(parts):
    """Every any, all and some of these parts."""
    yield any_of(*parts)
    yield all_of(*parts)
    for number in range(1, len(parts) + 1):
        yield some_of(number, *parts)


def sets_of(names):
    for size in range(len(names) + 1):
        yield from itertools.combinations(names, size)


def web_of(**needs):
    return web_by(needs.items())


def web_by(rows):
    web = Web()
    for name, need in rows:
        web.add(name, need)
    return web


def row_of_sixteen():
    """Each eats the one ahead, and the first the sun."""
    return [("a", SUN)] + [(name, eats(ahead)) for ahead, name in zip(SIXTEEN, SIXTEEN[1:])]


def held(web):
    return [(name, web.need_of(name)) for name in web.kinds()]


def meets(need, alive):
    """Point 3, word by word."""
    if need[0] == "sun":
        return True
    if need[0] == "eats":
        return need[1] in alive
    met = [meets(part, alive) for part in need[-1]]
    if need[0] == "any":
        return any(met)
    if need[0] == "all":
        return all(met)
    return met.count(True) >= need[1]


def alive_without(web, taken):
    """Who lives, by adding one kind after another as long as one can be fed."""
    alive = []
    waiting = [row for row in held(web) if row[0] not in taken]
    while True:
        fed = [name for name, need in waiting if name not in alive and meets(need, alive)]
        if not fed:
            return [name for name in web.kinds() if name in alive]
        alive.append(fed[-1])


class Chance:
    """Needs and webs by chance, the same in each run."""

    def __init__(self, seed):
        self.source = random.Random(seed)

    def below(self, bound):
        return int(self.source.random() * bound)

    def one_of(self, choices):
        return choices[self.below(len(choices))]

    def need(self, names, depth, forms=("any", "all", "some")):
        if depth == 1 or self.below(3) == 0:
            return SUN if self.below(5) == 0 else eats(self.one_of(names))
        parts = tuple(self.need(names, depth - 1, forms) for place in range(1 + self.below(4)))
        form = self.one_of(forms)
        return (form, 1 + self.below(len(parts)), parts) if form == "some" else (form, parts)

    def web(self, total, depth=3, forms=("any", "all", "some")):
        """Needs by chance, in which kinds that the web doesn't have are named too."""
        kinds = SIXTEEN[:total]
        order = sorted(kinds, key=lambda name: self.source.random())
        return web_by([(name, self.need(kinds + ["strange"], depth, forms)) for name in order])
