"""Small stories made by a fixed rule, and what is found by trying everything.

Looker does the steps of a scene in a way of its own, without the package's plays and ways.
"""

from tests.test_notes import comes_first


class Rule:
    """Numbers that follow from the first one: there is no chance in them."""

    def __init__(self, first):
        self.last = first * 7919 + 17

    def number(self, low, high):
        self.last = (self.last * 6364136223846793005 + 1442695040888963407) % 2 ** 64
        return low + (self.last >> 33) % (high - low + 1)

    def pick(self, items):
        return items[self.number(0, len(items) - 1)]

    def some(self, items, many):
        left = list(items)
        return [left.pop(self.number(0, len(left) - 1)) for _ in range(min(many, len(left)))]


class Maker:
    """Makes stories of one to four small scenes."""

    def __init__(self, first, names, size):
        self.rule = Rule(first)
        self.names = names
        self.size = size

    def limit(self):
        low = self.rule.number(-3, 3)
        return self.rule.pick([(None, None), (low, None), (low, None), (None, low), (None, low), (low, low),
                               (low, low), (low, low + 1), (low, low + 2)])

    def limits(self):
        return {name: self.limit() for name in self.rule.some(self.names, self.rule.pick([0, 1, 1, 2]))}

    def step(self, depth, size, later):
        rule = self.rule
        kinds = ["show", "set", "set", "add", "add", "need"]
        kinds += ["scene", "scene"] if later else []
        kinds += ["if", "if", "choose", "choose"] if depth < 5 else []
        kind = rule.pick(kinds)
        if kind == "show":
            return (kind, rule.pick(["x", "y", "z"]))
        if kind in ("set", "add"):
            return (kind, rule.pick(self.names), rule.number(-2, 2))
        if kind == "need":
            return (kind, rule.pick(self.names)) + self.limit()
        if kind == "scene":
            return (kind, rule.pick(later))
        if kind == "if":
            sides = (self.steps(depth + 1, size - 1, later), self.steps(depth + 1, size - 1, later))
            return (kind, rule.pick(self.names)) + self.limit() + sides
        words = rule.some(["go", "sit", "watch", "skip"], rule.number(1, 3))
        return (kind, [(word, self.limits(), self.steps(depth + 1, size - 1, later)) for word in words])

    def steps(self, depth, size, later):
        return [self.step(depth, size, later) for _ in range(self.rule.number(0, max(size, 0)))]

    def part(self):
        return (self.rule.pick(["add", "set"]), self.rule.number(-2, 2))

    def skip(self):
        if self.rule.number(0, 3) == 0:
            return None
        return [(self.limits(), {name: self.part() for name in self.rule.some(self.names, self.rule.number(0, 2))})
                for _ in range(self.rule.number(0, 3))]

    def scenes(self):
        names = ["one", "two", "three", "four"][:self.rule.number(1, 4)]
        return [(name, self.steps(1, self.size, names[at + 1:]), self.skip()) for at, name in enumerate(names)]


def holds(limits, notes):
    return all((low is None or notes.get(name, 0) >= low) and (high is None or notes.get(name, 0) <= high)
               for name, (low, high) in limits.items())


def not_zero(notes):
    return {name: k for name, k in notes.items() if k != 0}


def skipped(skip, notes):
    """The index of the row that counts, or None, and the notes that the skip leaves."""
    for at, (limits, parts) in enumerate(skip):
        if holds(limits, notes):
            return at, {**notes, **{name: k if kind == "set" else notes.get(name, 0) + k
                                    for name, (kind, k) in parts.items()}}
    return None, dict(notes)


class Looker:
    """Looks at all plays of the scenes.

    A play is a tuple (answers, shown, end, notes, trace, watched): the trace tells the answers,
    the sides of ifs and the rows of skips.
    """

    def __init__(self, scenes):
        self.scenes = {name: (steps, skip) for name, steps, skip in scenes}

    def plays(self, scene, notes):
        """All complete plays, and all questions (answers, scene, notes) whether to skip."""
        plays, questions = [], []
        for play in self.go(self.scenes[scene][0], dict(notes), (), (), (), True):
            (questions if play[2] == "asking" else plays).append(play)
        return plays, [(list(play[0]), play[4][-1], not_zero(play[3])) for play in questions]

    def go(self, steps, notes, book, shown, trace, watched):
        for at, step in enumerate(steps):
            rest = steps[at + 1:]
            if step[0] == "show":
                shown += (step[1],)
            elif step[0] == "set":
                notes = {**notes, step[1]: step[2]}
            elif step[0] == "add":
                notes = {**notes, step[1]: notes.get(step[1], 0) + step[2]}
            elif step[0] == "need":
                if not holds({step[1]: step[2:]}, notes):
                    return [(book, shown, "lost", not_zero(notes), trace, watched)]
            elif step[0] == "if":
                side = 0 if holds({step[1]: step[2:4]}, notes) else 1
                return self.go(step[4 + side] + rest, notes, book, shown, trace + (side,), watched)
            elif step[0] == "choose":
                offered = [option for option in step[1] if holds(option[1], notes)]
                if not offered:
                    return [(book, shown, "stuck", not_zero(notes), trace, watched)]
                return [play for word, limits, inner in offered
                        for play in self.go(inner + rest, notes, book + (word,), shown, trace + (word,), watched)]
            else:
                inner, skip = self.scenes[step[1]]
                if skip is None:
                    return self.go(inner + rest, notes, book, shown, trace, watched)
                row, left = skipped(skip, notes)
                asking = (book, shown, "asking", notes, trace + (step[1],), watched)
                watch = self.go(inner + rest, notes, book + ("watch",), shown, trace + ("watch",), watched)
                return [asking] + watch + self.go(rest, left, book + ("skip",), shown, trace + ("skip", row), False)
        return [(book, shown, "ended", not_zero(notes), trace, watched)]

    def wrong(self, scene, notes):
        """Whether the skip of the scene is wrong at the notes."""
        left = not_zero(skipped(self.scenes[scene][1], notes)[1])
        return not any(watched and end == "ended" and after == left
                       for book, shown, end, after, trace, watched in self.plays(scene, notes)[0])

    def loose(self, scene, notes):
        """Whether the scene is not exact because of these notes."""
        plays = [play for play in self.plays(scene, notes)[0] if play[5]]
        return any(play[2] != "ended" or play[3] != plays[0][3] for play in plays)


def is_ahead(one, other):
    """Whether the first play (notes, answers) comes ahead of the other one, after the words of [14]."""
    if len(one[1]) != len(other[1]):
        return len(one[1]) < len(other[1])
    if not_zero(one[0]) != not_zero(other[0]):
        return comes_first(one[0], other[0])
    return list(one[1]) < list(other[1])


def plain(notes):
    """The Notes as a dict."""
    return dict(notes.pairs())


def told(found):
    """What can be compared of a tuple (notes, answers), or of None."""
    return None if found is None else (plain(found[0]), found[1])
