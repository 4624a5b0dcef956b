"""The ways through a scene, for all notes, and the outcomes at some notes."""

from sceneskips.notes import by_notes
from sceneskips.patterns import patterns_in
from sceneskips.runs import Runs


class Way:
    """What complete plays of a scene have in common, for all notes of a pattern."""

    def __init__(self, pattern, stop):
        self._pattern = pattern
        self._stop = stop

    @property
    def pattern(self):
        """The notes with which these plays begin."""
        return self._pattern

    @property
    def change(self):
        """How these plays change their notes."""
        return self._stop.effect

    @property
    def answers(self):
        """The answers that are given."""
        return list(self._stop.book)

    @property
    def shown(self):
        """The words that are shown."""
        return list(self._stop.told)

    @property
    def end(self):
        """How these plays end."""
        return self._stop.place

    def __call__(self, notes):
        return notes + self._stop.effect


def ways(story, scene, *, skips=False):
    """Return the ways of watched plays, or of all plays, in their order."""
    # No letter comes ahead of the space: so these strings have the order of the answers.
    found = {}
    for stop in Runs(story, scene, skips).ends:
        rows = [(pattern.least(), Way(pattern, stop)) for area in stop.areas for pattern in patterns_in(area)]
        found.setdefault(" ".join(stop.book), []).extend(rows)
    return [row[1] for book in sorted([str(book) for book in found]) for row in by_notes(found[book])]


def outcomes(story, scene, notes):
    """Return the notes that the watched plays leave that end as "ended"."""
    stops = [stop for stop in Runs(story, scene, False).ended() if stop.begins_at(notes)]
    found = []
    for row in by_notes([(notes + stop.effect,) for stop in stops]):
        if len(found) == 0 or found[-1] != row[0]:
            found.append(row[0])
    return found
