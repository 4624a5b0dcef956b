"""The least notes of an area that are in none of a list of areas, and areas that cover it."""

from sceneskips.notes import Notes, in_order, rank, ranked
from sceneskips.spans import in_some, nearest


def least_beyond(area, areas):
    """Return the least notes that are in the area and in none of the areas, or None."""
    return search(area, areas)[0]


def search(area, areas):
    """Return the least notes as in least_beyond, and a list of indexes of areas.

    If the least notes are None then the areas with these indexes together cover the area.

    What waits is a list of choices for each name; the first choices are its least notes.
    If these are in some of the areas, then one of these areas is cut out of it.
    """
    near = [at for at, item in enumerate(areas) if item.met(area) is not None]
    others = [areas[at] for at in near]
    names = _named([area, *others])
    every = (1 << len(others)) - 1
    best = None
    used = {}
    waiting = [[_choices(name, area, others) for name in names]]
    while waiting:
        choices = waiting.pop()
        least = Notes({name: rows[0][0] for name, rows in zip(names, choices)})
        if best is None or least < best:
            around = every & _shared([rows[0][1] for rows in choices])
            if around == 0:
                best = least
            else:
                at = _narrowest(choices, around)
                used[near[at]] = True
                waiting.extend(_cut(choices, at))
    return best, sorted([int(at) for at in used])


def _named(areas):
    """Return the names that have spans in some of the areas."""
    found = {}
    for area in areas:
        for name in area.names():
            found[name] = True
    return in_order(found)


def _candidates(name, area, areas):
    """Return, in their order, the integers of the area that may be in the least notes.

    A step towards 0 from any other integer stays in the area and comes into no further one
    of the areas. So it is enough to look next to 0 and beside the ends of the spans.
    """
    found = {}
    for low, high in area.spans(name):
        found[rank(nearest(low, high))] = True
    for item in areas:
        for low, high in item.spans(name):
            if low is not None:
                found[rank(low - 1)] = True
            if high is not None:
                found[rank(high + 1)] = True
    ordered = [ranked(place) for place in sorted([int(place) for place in found])]
    return [k for k in ordered if in_some(k, area.spans(name))]


def _choices(name, area, areas):
    """Return tuples (k, mask) in the order of k: the bits of mask tell which areas allow k.

    An integer has no place in the least notes if one ahead of it is allowed by no other
    areas than it is itself.
    """
    spans = [item.spans(name) for item in areas]
    kept = []
    for k in _candidates(name, area, areas):
        mask = sum([1 << at for at, item in enumerate(spans) if in_some(k, item)])
        if all([(row[1] & mask) != row[1] for row in kept]):
            kept.append((k, mask))
    return kept


def _has(mask, at):
    return (mask >> at) & 1 == 1


def _shared(masks):
    """Return the bits that are in all masks."""
    shared = -1
    for mask in masks:
        shared = shared & mask
    return shared


def _narrowest(choices, around):
    """Return the index of the area among those around that the fewest names can leave."""
    bound = [_shared([row[1] for row in rows]) for rows in choices]
    narrowest = 0
    fewest = len(choices) + 1
    for at in range(around.bit_length()):
        if _has(around, at):
            many = len([mask for mask in bound if not _has(mask, at)])
            if many < fewest:
                narrowest = at
                fewest = many
    return narrowest


def _cut(choices, at):
    """Return pieces of the choices, which together are what is not in the area at this index."""
    rest = list(choices)
    pieces = []
    for place, rows in enumerate(choices):
        free = [row for row in rows if not _has(row[1], at)]
        if len(free) > 0:
            piece = list(rest)
            piece[place] = free
            pieces.append(piece)
        rest[place] = [row for row in rows if _has(row[1], at)]
    return pieces
