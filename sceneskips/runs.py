"""All plays of a scene, for all notes at once."""

from sceneskips.areas import Area, parted
from sceneskips.errors import InvalidScene, TooMany
from sceneskips.notes import Change
from sceneskips.skips import all_rows

MOST_RUNS = 300


class Walk:
    """The plays that have given the same answers and taken the same sides and rows so far.

    They began with notes in the areas, which have no common notes; effect is how their
    notes have changed since. The last one of the steps in rest is the next one.
    """

    def __init__(self, areas, effect, book, told, rest):
        self.areas = areas
        self.effect = effect
        self.book = book
        self.told = told
        self.rest = rest

    def branch(self, areas, answers, steps):
        """Return the walk with these answers more, and these steps ahead of the rest."""
        return Walk(areas, self.effect, self.book + answers, list(self.told), self.rest + steps[::-1])


class Stop:
    """What the plays of a walk have in common where they end, or ask whether to skip.

    place is how they end, or the name of the scene.
    """

    def __init__(self, walk, areas, place):
        self.areas = areas
        self.effect = walk.effect
        self.book = walk.book
        self.told = list(walk.told)
        self.place = place

    def begins_at(self, notes):
        """Tell whether one of these plays begins with the notes."""
        return any([area.has(notes) for area in self.areas])


class Runs:
    """The ends of all complete plays of a scene, and the questions whether to skip.

    Without skips, these are the watched plays alone.
    """

    def __init__(self, story, scene, skips):
        self._scenes = {name: (steps, skip) for name, steps, skip in story.scenes()}
        if scene not in self._scenes:
            raise InvalidScene("no scene has this name")
        self._skips = skips
        self._waiting = [Walk([Area({})], Change(), [], [], self._scenes[scene][0][::-1])]
        self.ends = []
        self.questions = []
        self._walk_all()

    def ended(self):
        """Return those ends that are "ended"."""
        return [stop for stop in self.ends if stop.place == "ended"]

    def _walk_all(self):
        many = 0
        while self._waiting:
            before = len(self.ends)
            self._walk_on(self._waiting.pop())
            # Plays that differ only in how they end are of one run.
            if len(self.ends) > before:
                many = many + 1
            if many > MOST_RUNS:
                raise TooMany("the scene has too many runs")

    def _walk_on(self, walk):
        """Do the steps up to one at which the plays may go different ways, or to the end."""
        while walk.rest and walk.areas:
            step = walk.rest.pop()
            if self._has_ways(step):
                self._go_ways(walk, step)
                return
            self._do(walk, step)
        self._end(walk, walk.areas, "ended")

    def _has_ways(self, step):
        return step[0] in ("if", "choose") or (step[0] == "scene" and self._scenes[step[1]][1] is not None)

    def _go_ways(self, walk, step):
        if step[0] == "if":
            self._take_sides(walk, step)
        elif step[0] == "choose":
            self._choose(walk, step[1])
        else:
            self._ask(walk, step[1])

    def _do(self, walk, step):
        kind, name = step[:2]
        if kind == "show":
            walk.told.append(name)
        elif kind == "need":
            inside, outside = parted(walk.areas, walk.effect, {name: step[2:]})
            self._end(walk, outside, "lost")
            walk.areas = inside
        elif kind == "scene":
            walk.rest.extend(self._scenes[name][0][::-1])
        else:
            walk.effect = walk.effect >> Change({name: (kind, step[2])})

    def _end(self, walk, areas, place):
        if len(areas) > 0:
            self.ends.append(Stop(walk, areas, place))

    def _wait(self, walks):
        """Let these walks be the next ones, in their order, unless no notes lead to them."""
        self._waiting.extend([walk for walk in walks[::-1] if len(walk.areas) > 0])

    def _take_sides(self, walk, step):
        inside, outside = parted(walk.areas, walk.effect, {step[1]: step[2:4]})
        self._wait([walk.branch(inside, [], step[4]), walk.branch(outside, [], step[5])])

    def _choose(self, walk, options):
        walks = []
        stuck = walk.areas
        for word, limits, steps in options:
            walks.append(walk.branch(parted(walk.areas, walk.effect, limits)[0], [word], steps))
            stuck = parted(stuck, walk.effect, limits)[1]
        self._end(walk, stuck, "stuck")
        self._wait(walks)

    def _ask(self, walk, name):
        steps, skip = self._scenes[name]
        self.questions.append(Stop(walk, walk.areas, name))
        walks = [walk.branch(walk.areas, ["watch"], steps)]
        if self._skips:
            left = walk.areas
            for limits, parts in all_rows(skip):
                inside, left = parted(left, walk.effect, limits)
                skipped = walk.branch(inside, ["skip"], [])
                skipped.effect = walk.effect >> Change(parts)
                walks.append(skipped)
        self._wait(walks)
