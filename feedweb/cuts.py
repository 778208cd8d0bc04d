"""Cuts: which kinds have to be taken away so that a kind doesn't live."""

from feedweb.errors import NotPlain, TooLarge
from feedweb.feeding import living
from feedweb.needs import names_of, parts_of, rows_of_places

MOST_KINDS_FOR_FELLED = 7
# More than there are kinds, so more than there are ways apart.
NO_BOUND = 100
# No kind is called sun, so this is no kind's place.
SUN_PLACE = ("sun", "in")


def is_plain(web):
    return all([is_plain_need(web.need_of(name)) for name in web.kinds()])


def is_plain_need(need):
    if need[0] in ("all", "some"):
        return False
    return all([is_plain_need(part) for part in parts_of(need)])


def has_sun(need):
    return need[0] == "sun" or any([has_sun(part) for part in parts_of(need)])


def cut(web, name):
    web.refuse_unknown(name)
    if not is_plain(web):
        raise NotPlain("a cut in a web with all or some in its needs")
    if has_sun(web.need_of(name)):
        return None
    start = (name, "out")
    room = room_for_ways(web, name)
    reached = reached_from(start, room)
    while SUN_PLACE in reached:
        send_one_way(reached, room)
        reached = reached_from(start, room)
    # No further way can pass these, so each of them is on one of the ways and each way has just one of them.
    kinds = [kind for kind in web.kinds() if (kind, "in") in reached and (kind, "out") not in reached]
    return (kinds, ways_sent(start, room))


# How many ways may still be sent from each place to each next one. A kind has two places, and one way may go from its
# "in" to its "out", so that no two ways share it; between kinds there is no bound, so that kinds alone cut.
def room_for_ways(web, name):
    room = {(name, "out"): {}, SUN_PLACE: {}}
    others = [kind for kind in web.kinds() if kind != name]
    for kind in others:
        room[(kind, "in")] = {}
        room[(kind, "out")] = {}
        make_room((kind, "in"), (kind, "out"), 1, room)
    for kind in web.kinds():
        need = web.need_of(kind)
        for eaten in names_of(need):
            if eaten in others and eaten != kind:
                make_room((kind, "out"), (eaten, "in"), NO_BOUND, room)
        if has_sun(need):
            make_room((kind, "out"), SUN_PLACE, NO_BOUND, room)
    return room


def make_room(place, further, many, room):
    room[place][further] = many
    # A way that was sent may be taken back, but there is none yet.
    room[further][place] = 0


# Every place that one more way could reach, with the place ahead of it.
def reached_from(start, room):
    reached = {start: None}
    newest = [start]
    while newest:
        place = newest.pop()
        for further in room[place]:
            if room[place][further] > 0 and further not in reached:
                reached[further] = place
                newest.append(further)
    return reached


def send_one_way(reached, room):
    place = SUN_PLACE
    while reached[place] is not None:
        ahead = reached[place]
        room[ahead][place] = room[ahead][place] - 1
        room[place][ahead] = room[place][ahead] + 1
        place = ahead


def ways_sent(start, room):
    return [way_sent(first, room) for first in sent_to(start, room)]


def way_sent(first, room):
    way = []
    place = first
    while place != SUN_PLACE:
        way.append(place[0])
        # A kind has room for one way, so there is just one place that it was sent to.
        place = sent_to((place[0], "out"), room)[0]
    return way


def sent_to(place, room):
    # What may be taken back was sent; but back to a kind's own "in" is no place further on.
    return [further for further in room[place] if further[0] != place[0] and room[further][place] > 0]


def felled(web, name):
    web.refuse_unknown(name)
    if len(web.kinds()) > MOST_KINDS_FOR_FELLED:
        raise TooLarge("the least set that fells a kind in a web of more than seven kinds")
    others = [kind for kind in web.kinds() if kind != name]
    # Fewer come first here, and of as many those that stand earlier, so the first set found is the least.
    for places in rows_of_places(len(others)):
        taken = [others[place] for place in places]
        if name not in living(web, taken):
            return taken
    return None
