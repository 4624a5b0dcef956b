"""Whether a scene is exact: all its watched plays end as "ended" and leave the same notes."""

from sceneskips.areas import least_of
from sceneskips.skips import differing


class Bundle:
    """The ends "ended" of plays that begin in the same area and change their notes likewise.

    kind is a number for the change. The bits of books tell which answers the plays give.
    """

    def __init__(self, area, effect, kind):
        self.area = area
        self.effect = effect
        self.kind = kind
        self.books = 0
        self.first = area.least()

    def weight(self):
        """Return the sum of the absolute values of the least notes."""
        return sum([abs(k) for name, k in self.first.pairs()])

    def may_clash(self, other):
        """Tell whether plays of both might leave different notes from the same ones.

        From the same notes, plays with the same answers are the same play.
        """
        return self.kind != other.kind and self.books & other.books == 0


def least_loose(runs):
    """Return the least notes at which the scene with these watched plays is not exact, or None."""
    least = None
    for stop in runs.ends:
        if stop.place != "ended":
            least = least_of(least, stop.areas)
    bundles = _bundles(runs.ended())
    for at, bundle in enumerate(bundles):
        least = _least_clash(least, bundle, bundles[:at])
    return least


def _bundles(stops):
    """Return the bundles of these ends, in the order of the weights of their least notes."""
    kinds = {}
    books = {}
    found = {}
    for stop in stops:
        kind = kinds.setdefault(tuple(stop.effect.parts()), len(kinds))
        bit = 1 << books.setdefault(" ".join(stop.book), len(books))
        for area in stop.areas:
            key = (kind, area.key())
            if key not in found:
                found[key] = Bundle(area, stop.effect, kind)
            bundle = found[key]
            bundle.books = bundle.books | bit
    # With changes of one kind, all leave the same.
    return _by_weight(list(found.values())) if len(kinds) > 1 else []


def _by_weight(bundles):
    many = len(bundles)
    places = sorted([int(bundle.weight() * many + at) for at, bundle in enumerate(bundles)])
    return [bundles[place % many] for place in places]


def _least_clash(least, bundle, others):
    """Return the least notes of these, and of those from which plays of the bundle and of another clash."""
    if _is_ahead(least, bundle):
        return least
    for other in others:
        if bundle.may_clash(other):
            both = bundle.area.met(other.area)
            if both is not None:
                least = least_of(least, differing([both], bundle.effect, other.effect))
                if _is_ahead(least, bundle):
                    return least
    return least


def _is_ahead(least, bundle):
    """Tell whether no notes of the bundle come ahead of these, which may be None."""
    return least is not None and least <= bundle.first
