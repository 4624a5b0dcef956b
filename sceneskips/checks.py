"""Whether skips are right, the tables that show it, and whether scenes are exact."""

from sceneskips.areas import all_met
from sceneskips.cover import least_beyond, search
from sceneskips.errors import InvalidScene, NoSkip
from sceneskips.exact import least_loose
from sceneskips.notes import lesser
from sceneskips.patterns import Pattern, area_of, least_outside, patterns_in
from sceneskips.runs import Runs
from sceneskips.skips import right_areas, right_plays, shares, wrong_places


def wrong_notes(story, scene):
    """Return the least notes at which the skip of the scene is wrong, or None."""
    skip, runs = _skip_and_runs(story, scene)
    least = None
    for area, areas in wrong_places(skip, runs.different()):
        least = lesser(least, least_beyond(area, areas))
    return least


def table(story, scene):
    """Return a table of the scene, or None if its skip is wrong."""
    skip, runs = _skip_and_runs(story, scene)
    stops = runs.different()
    items = []
    for share in shares(skip):
        plays = right_plays(share, stops)
        least, used = search(share.area, share.earlier + [play[0] for play in plays])
        if least is not None:
            return None
        many = len(share.earlier)
        items.extend(_items(share, [plays[at - many] for at in used if at >= many]))
    return items


def is_table(story, scene, items):
    """Tell whether the list of tuples (pattern, answers) is a table of the scene."""
    skip, runs = _skip_and_runs(story, scene)
    stops = runs.ended()
    rows = shares(skip)
    for pattern, answers in items:
        if not _is_right(rows, [stop for stop in stops if stop.book == answers], area_of(pattern)):
            return False
    return least_outside(Pattern(), [pattern for pattern, answers in items]) is None


def loose_notes(story, scene):
    """Return the least notes at which the scene is not exact, or None."""
    return least_loose(Runs(story, scene, False))


def _skip_and_runs(story, scene):
    """Return the skip of the scene, and the runs of its watched plays."""
    skips = {name: skip for name, steps, skip in story.scenes()}
    if scene not in skips:
        raise InvalidScene("no scene has this name")
    if skips[scene] is None:
        raise NoSkip("the scene has no skip")
    return skips[scene], Runs(story, scene, False)


def _items(share, plays):
    """Return the items of a table for the notes of the share, at each of which a play is right."""
    pieces = share.pieces()
    return [(pattern, list(answers)) for area, answers in plays
            for both in all_met(pieces, area) for pattern in patterns_in(both)]


def _is_right(rows, stops, area):
    """Tell whether at all notes of the area one of these plays leaves what the share that counts does."""
    for share in rows:
        both = share.area.met(area)
        if both is not None and least_beyond(both, right_areas(share, stops)) is not None:
            return False
    return True
