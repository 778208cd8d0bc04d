"""Who lives where some kinds are taken away, and on whom a kind hangs."""

from feedweb.needs import is_met


def levels(web, taken):
    for name in taken:
        web.refuse_unknown(name)
    others = [name for name in web.kinds() if name not in taken]
    level_by_name = {}
    level = 1
    fed = newly_fed(web, others, level_by_name)
    while fed:
        for name in fed:
            level_by_name[name] = level
        level = level + 1
        fed = newly_fed(web, others, level_by_name)
    return [(name, level_by_name.get(name)) for name in web.kinds()]


def newly_fed(web, others, level_by_name):
    # All of a level are found ahead of the first one's being noted: nobody is fed by a kind of the same level.
    alive = list(level_by_name)
    return [name for name in others if name not in alive and is_met(web.need_of(name), alive)]


def living(web, taken):
    return [name for name, level in levels(web, taken) if level is not None]


def hangs_on(web, name):
    web.refuse_unknown(name)
    if name not in living(web, []):
        return []
    return [other for other in web.kinds() if other != name and name not in living(web, [other])]
