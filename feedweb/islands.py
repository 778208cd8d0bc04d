"""Islands: kinds that hang together by their needs; and two webs joined to one."""

from feedweb.errors import Twice
from feedweb.needs import names_of
from feedweb.web import Web


def islands(web):
    near = near_kinds(web)
    told = []
    placed = {}
    for name in web.kinds():
        if name not in placed:
            reached = reached_kinds(name, near)
            placed.update(reached)
            told.append([kind for kind in web.kinds() if kind in reached])
    return told


# For each kind, those that its need names and those whose needs name it.
def near_kinds(web):
    near = {}
    for name in web.kinds():
        near[name] = []
    for name in web.kinds():
        for other in names_of(web.need_of(name)):
            # Who is named but isn't in the web is no kind of it, and joins nobody.
            if other in near:
                near[name].append(other)
                near[other].append(name)
    return near


def reached_kinds(first, near):
    reached = {first: True}
    newest = [first]
    while newest:
        name = newest.pop()
        for other in near[name]:
            if other not in reached:
                reached[other] = True
                newest.append(other)
    return reached


def joined(web, other):
    # Looked at ahead of all adding: a name that both have is refused as that even where the room runs out first.
    if any([name in other.kinds() for name in web.kinds()]):
        raise Twice("both webs have a kind of the same name")
    whole = Web()
    for part in (web, other):
        for name in part.kinds():
            whole.add(name, part.need_of(name))
    return whole
