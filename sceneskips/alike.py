"""Whether two stories are alike for every player."""

from sceneskips.areas import all_met, least_of, parted
from sceneskips.firsts import first_of
from sceneskips.patterns import area_of
from sceneskips.runs import Stretch, first_walk, runs_of_all, scenes_of
from sceneskips.skips import differing


class Side:
    """One of the two stories; none of its scenes may have too many runs."""

    def __init__(self, story):
        runs_of_all(story)
        self._scenes = scenes_of(story)
        self._first = story.names()[0]

    def begin(self, area):
        """Return the walk of the plays that begin in the area."""
        return first_walk(self._scenes[self._first][0], area)

    def stops(self, walk):
        """Return the stops to which the plays of the walk come next."""
        stretch = Stretch(self._scenes, walk)
        return stretch.ends + stretch.questions

    def answered(self, stop, areas, word):
        """Return the walks of the plays from these areas that give this answer."""
        if stop.place == "choose":
            return [stop.chosen(areas, option) for option in stop.about if option[0] == word]
        steps, skip = self._scenes[stop.about]
        return [stop.branch(areas, ["watch"], steps)] if word == "watch" else stop.skipped(areas, skip)


class Meeting:
    """A stop of each story, to which plays come that begin with the same notes of the area."""

    def __init__(self, mine, theirs, area):
        self.mine = mine
        self.theirs = theirs
        self.area = area


def parting(story, other, start):
    """Return the first parting play (notes, answers) of both stories, or None."""
    one, two = Side(story), Side(other)
    area = area_of(start)
    walks = [(one.begin(area), two.begin(area))]
    while walks:
        meetings = [meeting for mine, theirs in walks for meeting in _meetings(one.stops(mine), two.stops(theirs))]
        best = None
        for meeting in meetings:
            best = first_of(best, least_of(None, _seen_apart(meeting)), meeting.mine.book)
        # Only if nobody sees a difference up to here, the plays go on, with the same answers.
        if best is not None:
            return best
        walks = [pair for meeting in meetings for pair in _answered(one, two, meeting)]
    return None


def _meetings(stops, others):
    """Return the meetings of these stops."""
    return [Meeting(mine, theirs, both) for mine in stops for theirs in others
            for area in mine.areas for both in all_met(theirs.areas, area)]


def _answered(one, two, meeting):
    """Return tuples of a walk of each story, which go on with the same answer from the same notes."""
    mine, theirs = meeting.mine, meeting.theirs
    if mine.place != theirs.place:
        return []
    walks = []
    for word in _words(mine):
        for walk in one.answered(mine, [meeting.area], word):
            for other in two.answered(theirs, walk.areas, word):
                walks.extend([(walk.branch([area], [], []), other.branch([area], [], [])) for area in other.areas])
    return walks


def _words(stop):
    """Return the answers that are possible for some notes."""
    if stop.about is None:
        return []
    return ["watch", "skip"] if stop.place == "skip" else [option[0] for option in stop.about]


def _seen_apart(meeting):
    """Return areas which together are the notes from which the player sees a difference.

    Plays that are stuck at a choice come to two stops: where they are stuck in both
    stories, it is for the two ends to tell.
    """
    mine, theirs, areas = meeting.mine, meeting.theirs, [meeting.area]
    if mine.told != theirs.told:
        return areas
    if mine.place == "choose" and theirs.place == "stuck":
        return _not_stuck(mine, areas)
    if mine.place == "stuck" and theirs.place == "choose":
        return _not_stuck(theirs, areas)
    if mine.place != theirs.place:
        return areas
    if mine.place == "choose":
        return _offered_apart(mine, theirs, areas)
    if mine.place == "skip":
        return [] if mine.about == theirs.about else areas
    return differing(areas, mine.effect, theirs.effect)


def _offered_apart(mine, theirs, areas):
    """Return areas which together are the notes from which other words are offered, or in another order."""
    words, others = _words(mine), _words(theirs)
    found = []
    for word in words + [word for word in others if word not in words]:
        inside, outside = _offered(mine, areas, word)
        found.extend(_offered(theirs, inside, word)[1])
        found.extend(_offered(theirs, outside, word)[0])
    both = [word for word in words if word in others]
    for at, word in enumerate(both):
        for later in both[at + 1:]:
            if others.index(later) < others.index(word):
                found.extend(_offered(mine, _offered(mine, areas, word)[0], later)[0])
    return found


def _not_stuck(stop, areas):
    """Return areas which together are the notes of these from which some word is offered."""
    return [area for word in _words(stop) for area in _offered(stop, areas, word)[0]]


def _offered(stop, areas, word):
    """Return the areas of the notes of these from which the word is offered, and of the others."""
    for option in stop.about:
        if option[0] == word:
            return parted(areas, stop.effect, option[1])
    return [], areas
