"""Right skips with the fewest rows."""

from sceneskips.errors import InvalidScene, NotExact, TooWide
from sceneskips.exact import least_loose
from sceneskips.forms import inner_steps, played_names
from sceneskips.notes import NO_PART, in_order
from sceneskips.pieces import cells_of, pieces_of
from sceneskips.runs import Runs, scenes_of
from sceneskips.spans import NO_LIMITS
from sceneskips.strokes import fewest_strokes


def fewest_rows(story, scene):
    """Return the rows of a right skip of the scene, such that none has fewer."""
    scenes = scenes_of(story)
    if scene not in scenes:
        raise InvalidScene("no scene has this name")
    names = _names_in(scenes, scene)
    if len(names) > 1:
        raise TooWide("the steps name more than one note")
    runs = Runs(story, scene, False)
    if least_loose(runs) is not None:
        raise NotExact("the scene is not exact")
    return [row for name in names for row in _rows(name, cells_of(pieces_of(runs.ended(), name)))]


def _rows(name, cells):
    """Return rows for the note with this name, which do what the cells ask for."""
    # What happens where no row holds is like a row behind all others, which is free.
    strokes = fewest_strokes([[NO_PART], *[cell.colours for cell in cells]])
    rows = []
    for first, last, part in strokes[:-1]:
        limits = (cells[first - 1].low, cells[last - 1].high)
        rows.append(({} if limits == NO_LIMITS else {name: limits}, {} if part == NO_PART else {name: part}))
    return rows


def _names_in(scenes, scene):
    """Return the names of the notes in the steps of the scene, and of all scenes that it plays."""
    found = {}
    seen = {scene: True}
    waiting = [scene]
    while waiting:
        steps = scenes[waiting.pop()][0]
        for name in _names_of(steps):
            found[name] = True
        for played in played_names(steps):
            if played not in seen:
                seen[played] = True
                waiting.append(played)
    return in_order(found)


def _names_of(steps):
    """Return the names of the notes in the steps, steps within steps included."""
    names = []
    for step in steps:
        if step[0] in ("set", "add", "need", "if"):
            names.append(step[1])
        if step[0] == "choose":
            names.extend([name for word, limits, inner in step[1] for name in limits])
        for inner in inner_steps(step):
            names.extend(_names_of(inner))
    return names
