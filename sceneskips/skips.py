"""What skips do to notes, and where a watched play does the same."""

from sceneskips.areas import Area, area_within, parted
from sceneskips.notes import Change
from sceneskips.spans import holds


class Share:
    """The notes at which one row of a skip counts: those in area that are in none of earlier."""

    def __init__(self, limits, earlier, effect):
        self.area = area_within(limits)
        self.earlier = [area_within(others) for others in earlier]
        self.effect = effect
        self._limits = limits
        self._others = earlier

    def pieces(self):
        """Return areas without common notes, which together are these notes."""
        left = parted([Area({})], Change(), self._limits)[0]
        for others in self._others:
            left = parted(left, Change(), others)[1]
        return left


def all_rows(skip):
    """Return the rows of the skip, and one more that does what happens where none of them holds."""
    return [*skip, ({}, {})]


def shares(skip):
    """Return a Share for each row of the skip, and one for the notes at which none of them holds."""
    rows = all_rows(skip)
    limits = [row[0] for row in rows]
    return [Share(limits[at], limits[:at], Change(row[1])) for at, row in enumerate(rows)]


def after_skip(skip, notes):
    """Return the notes that the skip leaves."""
    holding = [row for row in all_rows(skip) if holds(row[0], notes)]
    return notes + Change(holding[0][1])


def agreement(one, other):
    """Return the limits of the notes from which both changes leave the same, or None."""
    limits = {}
    if one == other:
        return limits
    for row in one.parts() + other.parts():
        mine, theirs = one.part(row[0]), other.part(row[0])
        if mine[0] == theirs[0] and mine[1] != theirs[1]:
            return None
        if mine[0] != theirs[0]:
            k = theirs[1] - mine[1] if mine[0] == "add" else mine[1] - theirs[1]
            limits[row[0]] = (k, k)
    return limits


def differing(areas, one, other):
    """Return areas which together are the notes of the areas from which both changes leave others."""
    limits = agreement(one, other)
    return areas if limits is None else parted(areas, Change(), limits)[1]


def right_plays(share, stops):
    """Return tuples (area, answers): plays from the area with these answers leave what its row leaves.

    The stops are ends of plays that count.
    """
    found = []
    for stop in stops:
        limits = agreement(stop.effect, share.effect)
        if limits is not None:
            found.extend([(area, stop.book) for area in parted(stop.areas, Change(), limits)[0]])
    return found


def right_areas(share, stops):
    """Return areas: at the notes of the share that are in none of them, the skip is wrong."""
    return share.earlier + [area for area, answers in right_plays(share, stops)]


def wrong_places(skip, stops):
    """Return tuples (area, areas): the skip is wrong at the notes in area that are in none of the areas."""
    return [(share.area, right_areas(share, stops)) for share in shares(skip)]
