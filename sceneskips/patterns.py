"""Patterns: limits for notes, and the least notes that a list of patterns leaves."""

from sceneskips.areas import Area
from sceneskips.cover import least_beyond
from sceneskips.errors import NoCommon
from sceneskips.notes import Notes, in_order
from sceneskips.spans import NO_LIMITS, beside, common, led, nearest, within


class Pattern:
    """Limits (low, high) for finitely many names."""

    def __init__(self, limits=None):
        given = {} if limits is None else limits
        self._limits = {name: given[name] for name in given if given[name] != NO_LIMITS}

    def limits(self):
        """Return a list of tuples (name, low, high)."""
        return [(name, self._limits[name][0], self._limits[name][1]) for name in in_order(self._limits)]

    def limit(self, name):
        """Return the tuple (low, high) of this name."""
        return self._limits.get(name, NO_LIMITS)

    def __contains__(self, x):
        return all([within(x[name], low, high) for name, (low, high) in self._limits.items()])

    def __and__(self, other):
        if not isinstance(other, Pattern):
            return NotImplemented
        limits = dict(self._limits)
        for name in other._limits:
            both = common(self.limit(name), other.limit(name))
            if both is None:
                raise NoCommon("no notes are in both patterns")
            limits[name] = both
        return Pattern(limits)

    def __le__(self, other):
        if not isinstance(other, Pattern):
            return NotImplemented
        return all([len(beside(self.limit(name), other.limit(name))) == 0 for name in other._limits])

    def __sub__(self, other):
        if not isinstance(other, Pattern):
            return NotImplemented
        if not self._meets(other):
            return [Pattern(self._limits)]
        rest = dict(self._limits)
        pieces = []
        for name in in_order(other._limits):
            for side in beside(self.limit(name), other.limit(name)):
                pieces.append(Pattern({**rest, name: side}))
            # The pieces of the later names keep to other here: so no two have common notes.
            rest[name] = common(self.limit(name), other.limit(name))
        return pieces

    def __eq__(self, other):
        return isinstance(other, Pattern) and self._limits == other._limits

    def _meets(self, other):
        """Tell whether some notes are in both patterns."""
        return all([common(self.limit(name), other.limit(name)) is not None for name in other._limits])

    def least(self):
        """Return the least notes in the pattern."""
        return Notes({name: nearest(low, high) for name, (low, high) in self._limits.items()})

    def before(self, change):
        """Return the pattern of the notes that the change leads into this pattern."""
        limits = dict(self._limits)
        for name, kind, k in change.parts():
            source = led(self.limit(name), kind, k)
            if source is None:
                raise NoCommon("the change leads no notes into the pattern")
            limits[name] = source
        return Pattern(limits)


def area_of(pattern):
    """Return the area that has the notes of the pattern."""
    return Area({name: [(low, high)] for name, low, high in pattern.limits()})


def patterns_in(area):
    """Return a list of patterns, which together are the area, without common notes."""
    return [Pattern(limits) for limits in area.boxes()]


def least_outside(pattern, patterns):
    """Return the least notes that are in the pattern and in none of the patterns, or None."""
    return least_beyond(area_of(pattern), [area_of(item) for item in patterns])
