"""Patterns: limits for notes, and the least notes that a list of patterns leaves."""

from sceneskips.errors import NoCommon
from sceneskips.notes import Notes, in_order

NO_LIMITS = (None, None)


def within(k, low, high):
    """Tell whether the integer k is at least low and at most high."""
    return (low is None or low <= k) and (high is None or k <= high)


def _higher(one, other):
    """Return the narrower one of two lows."""
    if one is None or (other is not None and one < other):
        return other
    return one


def _lower(one, other):
    """Return the narrower one of two highs."""
    if one is None or (other is not None and other < one):
        return other
    return one


def _common(one, other):
    """Return the limits of the integers that are within both limits, or None."""
    low = _higher(one[0], other[0])
    high = _lower(one[1], other[1])
    if low is not None and high is not None and low > high:
        return None
    return (low, high)


def _beside(one, other):
    """Return the limits of the integers that are within one, below other and above it."""
    low, high = other
    sides = []
    if low is not None:
        sides.append(_common(one, (None, low - 1)))
    if high is not None:
        sides.append(_common(one, (high + 1, None)))
    return [side for side in sides if side is not None]


def _nearest(low, high):
    """Return the integer within the limits that is next to 0."""
    if low is not None and low > 0:
        return low
    if high is not None and high < 0:
        return high
    return 0


def _led(limits, kind, k):
    """Return the limits of the integers that a part leads into the limits, or None."""
    low, high = limits
    if kind == "set":
        return NO_LIMITS if within(k, low, high) else None
    return (None if low is None else low - k, None if high is None else high - k)


class Pattern:
    """Limits (low, high) for finitely many names."""

    def __init__(self, limits=None):
        given = {} if limits is None else limits
        self._limits = {name: given[name] for name in given if given[name] != NO_LIMITS}

    def limits(self):
        """Return a list of tuples (name, low, high)."""
        return [(name, self._limits[name][0], self._limits[name][1]) for name in in_order(self._limits)]

    def limit(self, name):
        """Return the tuple (low, high) of this name."""
        return self._limits.get(name, NO_LIMITS)

    def __contains__(self, x):
        return all([within(x[name], low, high) for name, (low, high) in self._limits.items()])

    def __and__(self, other):
        if not isinstance(other, Pattern):
            return NotImplemented
        limits = dict(self._limits)
        for name in other._limits:
            common = _common(self.limit(name), other.limit(name))
            if common is None:
                raise NoCommon("no notes are in both patterns")
            limits[name] = common
        return Pattern(limits)

    def __le__(self, other):
        if not isinstance(other, Pattern):
            return NotImplemented
        return all([len(_beside(self.limit(name), other.limit(name))) == 0 for name in other._limits])

    def __sub__(self, other):
        if not isinstance(other, Pattern):
            return NotImplemented
        if not self._meets(other):
            return [Pattern(self._limits)]
        rest = dict(self._limits)
        pieces = []
        for name in in_order(other._limits):
            for side in _beside(self.limit(name), other.limit(name)):
                pieces.append(Pattern({**rest, name: side}))
            # The pieces of the later names keep to other here: so no two have common notes.
            rest[name] = _common(self.limit(name), other.limit(name))
        return pieces

    def __eq__(self, other):
        return isinstance(other, Pattern) and self._limits == other._limits

    def _meets(self, other):
        """Tell whether some notes are in both patterns."""
        return all([_common(self.limit(name), other.limit(name)) is not None for name in other._limits])

    def least(self):
        """Return the least notes in the pattern."""
        return Notes({name: _nearest(low, high) for name, (low, high) in self._limits.items()})

    def before(self, change):
        """Return the pattern of the notes that the change leads into this pattern."""
        limits = dict(self._limits)
        for name, kind, k in change.parts():
            led = _led(self.limit(name), kind, k)
            if led is None:
                raise NoCommon("the change leads no notes into the pattern")
            limits[name] = led
        return Pattern(limits)


def least_outside(pattern, patterns):
    """Return the least notes that are in the pattern and in none of the patterns, or None.

    What waits is a list of choices for each name; the first choices are its least notes.
    If these are in some of the patterns, then one of these patterns is cut out of it.
    """
    names = _named([pattern, *patterns])
    every = (1 << len(patterns)) - 1
    best = None
    waiting = [[_choices(name, pattern, patterns) for name in names]]
    while waiting:
        choices = waiting.pop()
        least = Notes({name: rows[0][0] for name, rows in zip(names, choices)})
        if best is None or least < best:
            around = every & _shared([rows[0][1] for rows in choices])
            if around == 0:
                best = least
            else:
                waiting.extend(_cut(choices, _narrowest(choices, around)))
    return best


def _named(patterns):
    """Return the names that have limits in some of the patterns."""
    found = {}
    for pattern in patterns:
        for row in pattern.limits():
            found[row[0]] = True
    return in_order(found)


def _rank(k):
    """Return an integer from 0 that tells the place of k in the order of notes."""
    return 2 * abs(k) + (1 if k < 0 else 0)


def _ranked(rank):
    """Return the integer that has this rank."""
    return -(rank // 2) if rank & 1 else rank // 2


def _choices(name, pattern, patterns):
    """Return tuples (k, mask) in the order of k: the bits of mask tell which patterns allow k.

    An integer has no place in the least notes if one ahead of it is allowed by no other
    patterns than it is itself. So all stand next to 0 or beside a limit: from anywhere else
    a step towards 0 comes into no further pattern.
    """
    low, high = pattern.limit(name)
    limits = [item.limit(name) for item in patterns]
    found = [_nearest(low, high)]
    found.extend([item[0] - 1 for item in limits if item[0] is not None])
    found.extend([item[1] + 1 for item in limits if item[1] is not None])
    kept = []
    for rank in sorted([int(_rank(k)) for k in found if within(k, low, high)]):
        k = _ranked(rank)
        mask = sum([1 << at for at, item in enumerate(limits) if within(k, item[0], item[1])])
        if all([(row[1] & mask) != row[1] for row in kept]):
            kept.append((k, mask))
    return kept


def _has(mask, at):
    return (mask >> at) & 1 == 1


def _shared(masks):
    """Return the bits that are in all masks."""
    shared = -1
    for mask in masks:
        shared = shared & mask
    return shared


def _narrowest(choices, around):
    """Return the index of the pattern among those around that the fewest names can leave."""
    bound = [_shared([row[1] for row in rows]) for rows in choices]
    narrowest = 0
    fewest = len(choices) + 1
    for at in range(around.bit_length()):
        if _has(around, at):
            many = len([mask for mask in bound if not _has(mask, at)])
            if many < fewest:
                narrowest = at
                fewest = many
    return narrowest


def _cut(choices, at):
    """Return pieces of the choices, which together are what is not in the pattern at this index."""
    rest = list(choices)
    pieces = []
    for place, rows in enumerate(choices):
        free = [row for row in rows if not _has(row[1], at)]
        if len(free) > 0:
            piece = list(rest)
            piece[place] = free
            pieces.append(piece)
        rest[place] = [row for row in rows if _has(row[1], at)]
    return pieces
