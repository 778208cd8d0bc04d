"""Needs: their names, when they are met, and the least sets of names that meet them."""

from feedweb.errors import TooLarge

MOST_NAMES_FOR_WAYS = 6


def parts_of(need):
    return need[-1] if need[0] in ("any", "all", "some") else ()


def names_of(need):
    if need[0] == "eats":
        return [need[1]]
    # A key that comes again keeps its place in a dict, so each name stays where it first stood.
    found = {}
    for part in parts_of(need):
        for name in names_of(part):
            found[name] = True
    return list(found)


def is_met(need, alive):
    if need[0] == "sun":
        return True
    if need[0] == "eats":
        return need[1] in alive
    met = [part for part in parts_of(need) if is_met(part, alive)]
    return len(met) >= parts_asked(need)


def parts_asked(need):
    if need[0] == "any":
        return 1
    if need[0] == "all":
        return len(parts_of(need))
    return need[1]


def ways_of(need):
    names = names_of(need)
    if len(names) > MOST_NAMES_FOR_WAYS:
        raise TooLarge("the ways of a need with more than six names")
    ways = []
    # Fewer names come first here, so a smaller set that meets the need is found ahead of all that hold it.
    for places in rows_of_places(len(names)):
        alive = [names[place] for place in places]
        if is_met(need, alive) and not holds_one_of(alive, ways):
            ways.append(alive)
    return ways


def holds_one_of(names, ways):
    return any([holds_all(names, way) for way in ways])


def holds_all(names, way):
    return all([name in names for name in way])


def rows_of_places(total):
    rows = [[]]
    longest = [[]]
    while longest:
        longest = longer_rows(longest, total)
        rows.extend(longest)
    return rows


def longer_rows(rows, total):
    # Rows in order, each with its later places in order, stay in order: no sorting is needed behind this.
    longer = []
    for row in rows:
        first = row[-1] + 1 if row else 0
        for place in range(first, total):
            longer.append(row + [place])
    return longer
