"""Areas: notes that are told by spans for each name, where a pattern has but one.

What remains of notes behind many ifs on one note has gaps. Kept as spans, the gaps of
one name do not multiply with those of the other names.
"""

from sceneskips.notes import Notes, in_order, lesser, rank, ranked
from sceneskips.spans import NO_LIMITS, beside, common_spans, in_some, led, led_spans, nearest


class Area:
    """Spans for finitely many names; an area has notes in it, and is never changed."""

    def __init__(self, spans):
        self._spans = spans

    def names(self):
        """Return the names that have spans."""
        return in_order(self._spans)

    def spans(self, name):
        """Return the spans of this name."""
        return self._spans.get(name, [NO_LIMITS])

    def key(self):
        """Return a tuple that is the same for areas with the same spans."""
        return tuple([(name, tuple(self._spans[name])) for name in self.names()])

    def has(self, notes):
        """Tell whether the notes are in the area."""
        return all([in_some(notes[name], self._spans[name]) for name in self._spans])

    def least(self):
        """Return the least notes in the area."""
        return Notes({name: _nearest_of(self._spans[name]) for name in self._spans})

    def kept(self, name, spans):
        """Return the area of those notes that are in the spans at this name, or None."""
        left = common_spans(self._spans[name], spans) if name in self._spans else spans
        if len(left) == 0:
            return None
        return Area({**self._spans, name: left})

    def met(self, other):
        """Return the area of the notes that are in both areas, or None."""
        both = self
        for name in other.names():
            both = both.kept(name, other.spans(name))
            if both is None:
                return None
        return both

    def source(self, change):
        """Return the area of the notes that the change leads into this area, or None."""
        spans = dict(self._spans)
        for name, kind, k in change.parts():
            spans[name] = led_spans(self.spans(name), kind, k)
            if len(spans[name]) == 0:
                return None
        return Area(spans)

    def boxes(self):
        """Return a list of limits for names, which together are the area, without common notes."""
        boxes = [{}]
        for name in self.names():
            boxes = [{**box, name: limits} for box in boxes for limits in self._spans[name]]
        return boxes


def _nearest_of(spans):
    return ranked(min([int(rank(nearest(low, high))) for low, high in spans]))


def least_of(least, areas):
    """Return the least notes of these, which may be None, and of those in the areas."""
    for area in areas:
        least = lesser(least, area.least())
    return least


def area_within(limits):
    """Return the area of the notes for which the limits hold."""
    return Area({name: [limits[name]] for name in limits})


def all_met(areas, area):
    """Return the areas of the notes that are in one of the areas and in this area, too."""
    return [both for both in [item.met(area) for item in areas] if both is not None]


def all_sources(areas, change):
    """Return the areas of the notes that the change leads into one of the areas."""
    return [source for source in [item.source(change) for item in areas] if source is not None]


def _all_kept(areas, name, spans):
    return [kept for kept in [item.kept(name, spans) for item in areas] if kept is not None]


def parted(areas, change, limits):
    """Return the areas of the notes that the change leads into the limits, and of the others.

    If the areas have no common notes then those that are returned have none either.
    """
    inside = areas
    outside = []
    if len(limits) == 0:
        return inside, outside
    for name in in_order(limits):
        part = change.part(name)
        there = led(limits[name], part[0], part[1])
        others = [NO_LIMITS] if there is None else beside(NO_LIMITS, there)
        outside.extend(_all_kept(inside, name, others))
        inside = [] if there is None else _all_kept(inside, name, [there])
    return inside, outside
