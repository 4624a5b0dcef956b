"""All plays of a scene, for all notes at once."""

from sceneskips.areas import Area, parted
from sceneskips.errors import InvalidScene, TooMany
from sceneskips.notes import Change
from sceneskips.skips import all_rows

MOST_RUNS = 300


class Walk:
    """The plays that have given the same answers and taken the same sides and rows so far.

    They began with notes in the areas, which have no common notes; effect is how their
    notes have changed since. The last one of the steps in rest is the next one.
    """

    def __init__(self, areas, effect, book, told, rest):
        self.areas = areas
        self.effect = effect
        self.book = book
        self.told = told
        self.rest = rest

    def branch(self, areas, answers, steps):
        """Return the walk with these answers more, and these steps ahead of the rest."""
        return Walk(areas, self.effect, self.book + answers, list(self.told), self.rest + steps[::-1])

    def chosen(self, areas, option):
        """Return the walk of the plays from these areas that choose the option."""
        word, limits, steps = option
        return self.branch(parted(areas, self.effect, limits)[0], [word], steps)

    def skipped(self, areas, skip):
        """Return a walk for each row of the skip, and for none, of the plays from these areas that skip."""
        walks = []
        left = areas
        for limits, parts in all_rows(skip):
            inside, left = parted(left, self.effect, limits)
            walk = self.branch(inside, ["skip"], [])
            walk.effect = self.effect >> Change(parts)
            walks.append(walk)
        return walks


class Stop(Walk):
    """The plays of a walk where they end, or ask.

    place is how they end, or the kind of the question: then about is what they ask, the
    options of the choice or the name of the scene.
    """

    def __init__(self, walk, areas, place, about):
        Walk.__init__(self, areas, walk.effect, walk.book, list(walk.told), list(walk.rest))
        self.place = place
        self.about = about

    def begins_at(self, notes):
        """Tell whether one of these plays begins with the notes."""
        return any([area.has(notes) for area in self.areas])


class Stretch:
    """The ends and the questions to which the plays of a walk come without a further answer."""

    def __init__(self, scenes, walk):
        self._scenes = scenes
        self._waiting = [walk]
        self._known = {}
        self.ends = []
        self.questions = []
        self._walk_all()

    def _walk_all(self):
        many = 0
        while self._waiting:
            before = len(self.ends)
            self._walk_on(self._waiting.pop())
            # Plays that differ only in how they end are of one run.
            if len(self.ends) > before:
                many = many + 1
            if many > MOST_RUNS:
                raise TooMany("the scene has too many runs")

    def _walk_on(self, walk):
        """Do the steps up to one at which the plays may go different ways, or to the end."""
        while walk.rest and walk.areas:
            step = walk.rest.pop()
            if self._has_ways(step):
                self._go_ways(walk, step)
                return
            self._do(walk, step)
        self._end(walk, walk.areas, "ended")

    def _has_ways(self, step):
        return step[0] in ("if", "choose") or (step[0] == "scene" and self._scenes[step[1]][1] is not None)

    def _go_ways(self, walk, step):
        if step[0] == "if":
            self._take_sides(walk, step)
        elif step[0] == "choose":
            self._offer(walk, step[1])
        else:
            self._ask(walk, step[1])

    def _do(self, walk, step):
        kind, name = step[:2]
        if kind == "show":
            walk.told.append(name)
        elif kind == "need":
            inside, outside = self._parted(walk, name, step[2:])
            self._end(walk, outside, "lost")
            walk.areas = inside
        elif kind == "scene":
            walk.rest.extend(self._scenes[name][0][::-1])
        else:
            walk.effect = walk.effect.then(name, (kind, step[2]))

    def _parted(self, walk, name, limits):
        """Return the areas of the plays whose note is within the limits, and of the others."""
        if len(walk.book) == 0:
            return parted(walk.areas, walk.effect, {name: limits})
        # Plays that differ in their answers often come here from the same areas.
        key = (tuple(walk.areas), name, limits, walk.effect.part(name))
        if key not in self._known:
            self._known[key] = parted(walk.areas, walk.effect, {name: limits})
        return self._known[key]

    def _end(self, walk, areas, place):
        if len(areas) > 0:
            self.ends.append(Stop(walk, areas, place, None))

    def _wait(self, walks):
        """Let these walks be the next ones, in their order, unless no notes lead to them."""
        self._waiting.extend([walk for walk in walks[::-1] if len(walk.areas) > 0])

    def _take_sides(self, walk, step):
        inside, outside = self._parted(walk, step[1], step[2:4])
        self._wait([walk.branch(inside, [], step[4]), walk.branch(outside, [], step[5])])

    def _offer(self, walk, options):
        stuck = walk.areas
        for word, limits, steps in options:
            stuck = parted(stuck, walk.effect, limits)[1]
        self._end(walk, stuck, "stuck")
        self._choose(walk, options)

    def _choose(self, walk, options):
        # The areas are left whole: from some of their notes the plays may be stuck here.
        self.questions.append(Stop(walk, walk.areas, "choose", options))

    def _ask(self, walk, name):
        self.questions.append(Stop(walk, walk.areas, "skip", name))


class Runs(Stretch):
    """The ends of all complete plays of a scene, and the questions whether to skip.

    Without skips, these are the watched plays alone.
    """

    def __init__(self, story, scene, skips):
        scenes = scenes_of(story)
        if scene not in scenes:
            raise InvalidScene("no scene has this name")
        self._skips = skips
        Stretch.__init__(self, scenes, first_walk(scenes[scene][0], Area({})))

    def ended(self):
        """Return those ends that are "ended"."""
        return [stop for stop in self.ends if stop.place == "ended"]

    def different(self):
        """Return those ends that are "ended", but of those with the same areas and effect only the first."""
        found = {}
        for stop in self.ended():
            found.setdefault((tuple(stop.areas), tuple(stop.effect.parts())), stop)
        return list(found.values())

    def _choose(self, walk, options):
        self._wait([walk.chosen(walk.areas, option) for option in options])

    def _ask(self, walk, name):
        steps, skip = self._scenes[name]
        self.questions.append(Stop(walk, walk.areas, "skip", name))
        watched = walk.branch(walk.areas, ["watch"], steps)
        self._wait([watched, *(walk.skipped(walk.areas, skip) if self._skips else [])])


def scenes_of(story):
    """Return a dict from the names of the scenes to tuples (steps, skip)."""
    return {name: (steps, skip) for name, steps, skip in story.scenes()}


def first_walk(steps, area):
    """Return the walk that is about to do the steps, from the notes of the area."""
    return Walk([area], Change(), [], [], steps[::-1])


def runs_of_all(story):
    """Return the runs of all plays of the story: none of its scenes may have too many."""
    runs = [Runs(story, name, True) for name in story.names()]
    return runs[0]
