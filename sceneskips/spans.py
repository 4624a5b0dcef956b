"""Limits of one note: a tuple (low, high), where None is no limit on this side.

Spans are a list of limits, no two of which have common integers.
"""

NO_LIMITS = (None, None)


def within(k, low, high):
    """Tell whether the integer k is at least low and at most high."""
    return (low is None or low <= k) and (high is None or k <= high)


def holds(limits, notes):
    """Tell whether the limits of all names hold for the notes."""
    return all([within(notes[name], low, high) for name, (low, high) in limits.items()])


def _higher(one, other):
    """Return the narrower one of two lows."""
    if one is None or (other is not None and one < other):
        return other
    return one


def _lower(one, other):
    """Return the narrower one of two highs."""
    if one is None or (other is not None and other < one):
        return other
    return one


def common(one, other):
    """Return the limits of the integers that are within both limits, or None."""
    low = _higher(one[0], other[0])
    high = _lower(one[1], other[1])
    if low is not None and high is not None and low > high:
        return None
    return (low, high)


def beside(one, other):
    """Return the spans of the integers that are within one, but below or above other."""
    low, high = other
    sides = []
    if low is not None:
        sides.append(common(one, (None, low - 1)))
    if high is not None:
        sides.append(common(one, (high + 1, None)))
    return [side for side in sides if side is not None]


def nearest(low, high):
    """Return the integer within the limits that is next to 0."""
    if low is not None and low > 0:
        return low
    if high is not None and high < 0:
        return high
    return 0


def led(limits, kind, k):
    """Return the limits of the integers that a part leads into the limits, or None."""
    low, high = limits
    if kind == "set":
        return NO_LIMITS if within(k, low, high) else None
    return (None if low is None else low - k, None if high is None else high - k)


def in_some(k, spans):
    """Tell whether the integer k is in one of the spans."""
    return any([within(k, low, high) for low, high in spans])


def common_spans(spans, others):
    """Return the spans of the integers that are in both."""
    found = [common(one, other) for one in spans for other in others]
    return [limits for limits in found if limits is not None]


def led_spans(spans, kind, k):
    """Return the spans of the integers that a part leads into the spans."""
    found = [led(limits, kind, k) for limits in spans]
    return [limits for limits in found if limits is not None]
