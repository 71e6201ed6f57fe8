"""Names that lean on one another: where they lead, and which of them are knots."""


def led_to(name, leans):
    """All names to which a name leads, over whatever many, sorted."""
    return sorted(reached(name, leans))


def knots_of(names, leans):
    """The names parted into knots, each in the order of names, these by their first ones."""
    within = {name: [] for name in names}
    backward = {name: [] for name in names}
    for name in names:
        for other in leans.get(name, []):
            if other in within:
                within[name].append(other)
                backward[other].append(name)
    placed = {}
    knots = []
    for name in within:
        if name not in placed:
            knot = knot_of(name, within, backward)
            knots.append(knot)
            for each in knot:
                placed[each] = True
    return knots


def knot_of(name, within, backward):
    """The knot of a name: those to which it leads and that lead to it, and itself."""
    ahead = reached(name, within)
    behind = reached(name, backward)
    return [other for other in within if other == name or (other in ahead and other in behind)]


def reached(name, leans):
    """A dict whose keys are the names to which a name leads, over whatever many."""
    found = {}
    waiting = list(leans.get(name, []))
    while waiting:
        other = waiting.pop()
        if other not in found:
            found[other] = True
            waiting.extend(leans.get(other, []))
    return found
