"""A web: kinds in the order of adding, each with its need."""

from feedweb.errors import Full, NoKind, NoName, Twice

MOST_KINDS = 16
MOST_LETTERS = 8
# Notes write these words in needs, so a kind of such a name could not be told from them.
KEPT_WORDS = ("any", "all", "of", "sun")


def is_name(text):
    if len(text) < 1 or len(text) > MOST_LETTERS or text in KEPT_WORDS:
        return False
    return all(["a" <= sign <= "z" for sign in text])


class Web:
    def __init__(self):
        # A dict keeps the order in which keys came, and a key taken out and put in again comes last.
        self.need_by_name = {}

    def add(self, name, need):
        if not is_name(name):
            raise NoName(f"no name for a kind: {name!r}")
        if name in self.need_by_name:
            raise Twice(f"the web has this kind already: {name}")
        if len(self.need_by_name) >= MOST_KINDS:
            raise Full("the web has sixteen kinds already")
        self.need_by_name[name] = need

    def drop(self, name):
        self.refuse_unknown(name)
        self.need_by_name.pop(name)

    def kinds(self):
        return list(self.need_by_name)

    def need_of(self, name):
        self.refuse_unknown(name)
        return self.need_by_name[name]

    def refuse_unknown(self, name):
        if name not in self.need_by_name:
            raise NoKind(f"the web has no such kind: {name!r}")
