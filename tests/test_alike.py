"""[17]: stories that are alike; [2] and [4] for them, [5] (f)."""

import copy
import itertools
import unittest

from sceneskips.alike import parting
from sceneskips.errors import TooMany
from sceneskips.notes import Notes
from sceneskips.patterns import Pattern
from sceneskips.plays import resumed
from sceneskips.stories import Story

from tests.brute import Maker, is_ahead, plain, told
from tests.test_checks import options
from tests.test_notes import HUGE, grid
from tests.test_plays import LONG, one_scene
from tests.test_stories import EXAMPLE
from tests.test_ways import FAR, choice, points
from tests.test_whole import start


def sees(play):
    """What the player sees of a play."""
    return play.shown, play.state, play.question, play.notes.pairs() if play.question is None else None


def answers_to(play):
    if play.question is None:
        return []
    return ["watch", "skip"] if play.question[0] == "skip" else play.question[1]


def all_partings(story, other, notes, most):
    """All parting plays from these notes with at most so many answers."""
    found, waiting = [], [[]]
    while waiting:
        book = waiting.pop()
        one, two = resumed(story, Notes(notes), book), resumed(other, Notes(notes), book)
        if sees(one) != sees(two):
            found.append((notes, book))
        elif len(book) < most:
            waiting += [book + [word] for word in answers_to(one)]
    return found


class PartingTest(unittest.TestCase):

    def check(self, one, other, wanted, pattern=None):
        """Check what parting returns for two lists of scenes, in both orders."""
        pattern = Pattern() if pattern is None else pattern
        story, second = Story(one), Story(other)
        for first, last in [(story, second), (second, story)]:
            found = parting(first, last, pattern)
            self.assertEqual(told(found), wanted)
            if found is not None:
                self.check_play(first, last, found, pattern)
        self.assertIsNone(parting(story, Story(one), pattern))
        self.assertEqual((story, second), (Story(one), Story(other)))

    def check_play(self, story, other, found, pattern):
        notes, answers = found
        self.assertEqual([type(found), type(notes), type(answers)], [tuple, Notes, list])
        self.assertIn(notes, pattern)
        for many in range(len(answers) + 1):
            one, two = resumed(story, notes, answers[:many]), resumed(other, notes, answers[:many])
            self.assertEqual(sees(one) == sees(two), many < len(answers))

    def steps(self, one, other, wanted, pattern=None):
        self.check([("a", one, None)], [("a", other, None)], wanted, pattern)

    def test_the_same(self):
        for scenes in [EXAMPLE, LONG.scenes(), [("a", [], None)]]:
            for pattern in [Pattern(), start(met=(1, 2)), start(zz=(None, -3))]:
                self.check(scenes, scenes, None, pattern)

    def test_words_that_are_shown(self):
        self.steps([("show", "x")], [("show", "y")], ({}, []))
        self.steps([("show", "x")], [], ({}, []))
        self.steps([("show", "x"), ("show", "y")], [("show", "y"), ("show", "x")], ({}, []))
        self.steps([("show", "x"), ("show", "x")], [("show", "x")], ({}, []))
        self.steps([choice(2), ("show", "x")], [choice(2), ("show", "y")], ({}, ["w"]))
        # Ahead of the question, or behind it.
        self.steps([choice(1), ("show", "x")], [("show", "x"), choice(1)], ({}, []))
        self.steps([choice(1), ("show", "x"), choice(1)], [choice(1), choice(1), ("show", "x")], ({}, ["w"]))

    def test_how_it_ends(self):
        self.steps([("need", "n", 1, None)], [], ({}, []))
        self.steps([("need", "n", None, 3)], [], ({"n": 4}, []))
        self.steps([("need", "n", None, 3)], [("need", "n", None, 4)], ({"n": 4}, []))
        self.steps([("need", "n", None, 3)], [("choose", [("x", {"n": (None, 3)}, [])])], ({}, []))
        self.steps([("need", "n", None, 3)], [("if", "n", 4, None, [("choose", [("x", {"n": (0, 0)}, [])])], [])],
                   ({"n": 4}, []))
        self.steps([("set", "n", 1), ("need", "n", 2, 2)], [("set", "n", 1), ("need", "n", 3, 3)], None)

    def test_notes_at_the_end(self):
        self.steps([("add", "n", 1)], [("add", "n", 2)], ({}, []))
        self.steps([("add", "n", 1)], [("add", "m", 1)], ({}, []))
        self.steps([("set", "n", 0)], [], ({"n": 1}, []))
        self.steps([("set", "n", 5)], [("add", "n", 5)], ({"n": 1}, []))
        self.steps([("set", "n", 5), ("set", "m", 0)], [("add", "n", 0), ("set", "m", 0)], ({}, []))
        self.steps([("set", "n", 5)], [("add", "n", 2)], None, start(n=(3, 3)))
        self.steps([("set", "n", 5)], [("add", "n", 2)], ({"n": 4, "q": 1}, []), start(n=(3, 4), q=(1, 4)))
        self.steps([choice(1), ("set", "n", 5)], [choice(1), ("set", "n", 5), ("set", "m", 0)], ({"m": 1}, ["w"]))
        # Also if it is lost or stuck.
        for last in [("need", "q", 1, 1), ("choose", [("x", {"q": (1, 1)}, [])])]:
            self.steps([("add", "n", 1), last], [last], ({}, []))
            self.steps([("set", "n", 0), last], [last], ({"n": 1}, []))

    def test_notes_on_the_way_are_not_seen(self):
        self.steps([("add", "n", 1), ("show", "x"), ("set", "n", 0)], [("show", "x"), ("set", "n", 0)], None)
        self.steps([("add", "n", 1), choice(2), ("add", "n", -1)], [choice(2)], None)
        self.steps([("add", "n", 1), choice(2)], [choice(2)], ({}, ["w"]))
        self.steps([("set", "m", 3), ("need", "n", None, 2), ("set", "m", 0)],
                   [("need", "n", None, 2), ("set", "m", 0)], ({"n": 3}, []))

    def test_offered_words(self):
        self.steps([choice(3)], [choice(2)], ({}, []))
        self.steps([options(("x", []), ("y", []))], [options(("y", []), ("x", []))], ({}, []))
        self.steps([options(("x", []), ("y", []), ("z", []))], [options(("x", []), ("z", []), ("y", []))], ({}, []))
        one = ("choose", [("x", {"n": (None, 4)}, []), ("y", {}, [])])
        self.steps([one], [("choose", [("x", {"n": (None, 5)}, []), ("y", {}, [])])], ({"n": 5}, []))
        self.steps([one], [options(("x", []), ("y", []))], ({"n": 5}, []))
        self.steps([one], [options(("y", []))], ({}, []))
        self.steps([one], [("choose", [("y", {}, []), ("x", {"n": (None, 4)}, [])])], ({}, []))
        self.steps([one], [("choose", [("y", {}, []), ("x", {"n": (None, 4)}, [])])], None, start(n=(5, None)))
        # The order shows only where both words are offered.
        first = ("choose", [("x", {"n": (None, 4)}, []), ("y", {"n": (4, None)}, [])])
        last = ("choose", [("y", {"n": (4, None)}, []), ("x", {"n": (None, 4)}, [])])
        self.steps([first], [last], ({"n": 4}, []))
        self.steps([first], [last], None, start(n=(None, 3)))
        first = ("choose", [("x", {"n": (None, 3)}, []), ("y", {"n": (4, None)}, [])])
        last = ("choose", [("y", {"n": (4, None)}, []), ("x", {"n": (None, 3)}, [])])
        self.steps([first], [last], None)
        self.steps([("add", "n", 2), first], [("add", "n", 3), last], ({"n": 1}, []))

    def test_an_option_that_is_never_offered(self):
        dead = ("x", {"n": (5, None)}, [("show", "no")])
        self.steps([("set", "n", 1), ("choose", [dead, ("y", {}, [])])], [("set", "n", 1), options(("y", []))], None)
        self.steps([("choose", [dead, ("y", {}, [])])], [options(("y", []))], ({"n": 5}, []))
        self.steps([("choose", [dead, ("y", {}, [])])], [options(("y", []))], None, start(n=(None, 4)))
        self.steps([("choose", [("x", {"n": (5, None), "m": (1, 1)}, []), ("y", {}, [])])], [options(("y", []))],
                   ({"m": 1, "n": 5}, []))

    def test_stuck(self):
        one = ("choose", [("x", {"n": (None, 4)}, []), ("y", {"n": (9, None)}, [])])
        self.steps([one], [("choose", [("x", {"n": (None, 4)}, []), ("y", {"n": (8, None)}, [])])], ({"n": 8}, []))
        self.steps([one, ("show", "x")], [one], ({}, ["x"]))
        self.steps([one, ("show", "x")], [one], None, start(n=(5, 8)))
        self.steps([("add", "m", 1), one, ("add", "m", -1)], [one], ({"n": 5}, []))
        self.steps([("add", "m", 1), one, ("add", "m", -1)], [one], None, start(n=(None, 4)))

    def test_questions(self):
        self.steps([choice(2)], [], ({}, []))
        self.steps([choice(2), choice(1)], [choice(2)], ({}, ["w"]))
        self.steps([options(("x", [choice(1)]), ("y", []))], [choice(2)], ({}, []))
        self.steps([options(("x", [choice(1)]), ("y", []))], [options(("x", []), ("y", [choice(1)]))], ({}, ["x"]))
        tea, cup = ("tea", [], []), ("cup", [], [])
        self.check([("a", [("scene", "tea")], None), tea, cup], [("a", [("scene", "cup")], None), tea, cup], ({}, []))
        self.check([("a", [("scene", "tea")], None), tea], [("a", [], None), tea], ({}, []))
        # With and without a skip.
        self.check([("a", [("scene", "tea")], None), tea], [("a", [("scene", "tea")], None), ("tea", [], None)],
                   ({}, []))
        # The words watch and skip are another question.
        self.check([("a", [("scene", "tea")], None), tea], [("a", [options(("watch", []), ("skip", []))], None)],
                   ({}, []))
        # A choice with a word of the question, and the name of the first scene.
        self.check([("a", [], None)], [("b", [], [({}, {"n": ("add", 1)})])], None)

    def test_what_scenes_do_when_watched_or_skipped(self):
        def told_with(steps, skip):
            return [("a", [("scene", "b"), ("show", "x")], None), ("b", steps, skip)]
        up = {"n": ("add", 1)}
        self.check(told_with([("add", "n", 1)], [({}, up)]), told_with([("add", "n", 2)], [({}, up)]), ({}, ["watch"]))
        self.check(told_with([], [({}, up)]), told_with([], [({}, {"n": ("add", 2)})]), ({}, ["skip"]))
        self.check(told_with([], [({}, up)]), told_with([], [({"n": (None, 7)}, up)]), ({"n": 8}, ["skip"]))
        self.check(told_with([("add", "m", 1)], [({}, up)]), told_with([], []), ({}, ["skip"]))
        # How a row is chosen is not seen.
        self.check(told_with([], [({}, up)]), told_with([], [({"n": (0, 3)}, up), ({"n": (2, 9)}, up), ({}, up)]), None)
        self.check(told_with([], [({"n": (4, 4)}, {"n": ("set", 5)}), ({}, up)]), told_with([], [({}, up)]), None)
        self.check(told_with([], []), told_with([], [({"n": (2, 2)}, {"n": ("set", 2)}), ({}, {})]), None)
        self.check(told_with([], [({"n": (4, 5)}, {"n": ("set", 5)}), ({}, up)]), told_with([], [({}, up)]),
                   ({"n": 5}, ["skip"]))
        self.check(told_with([], [({"n": (1, 2), "m": (3, 3)}, {}), ({}, up)]), told_with([], [({}, up)]),
                   ({"m": 3, "n": 1}, ["skip"]))

    def test_told_otherwise_and_alike(self):
        one = [("if", "n", 0, None, [("show", "x")], [("show", "y")]), ("if", "m", None, 2, [("add", "n", 1)], [])]
        other = [("if", "n", None, -1, [("show", "y")], [("show", "x")]), ("if", "m", 3, None, [], [("add", "n", 1)])]
        self.steps(one, other, None)
        first, second = ("if", "n", 0, None, [("add", "k", 1)], []), ("if", "m", 0, None, [("add", "k", 2)], [])
        self.steps([first, second], [second, first], None)
        self.steps([first, second, first], [second, first], ({}, []))
        self.steps([("add", "n", 3), ("add", "n", -1)], [("add", "n", 2)], None)
        self.steps([("add", "n", 3), ("set", "n", 2)], [("set", "n", 2)], None)
        self.steps([("if", "n", 4, None, [("need", "n", 4, None)], [("show", "x")])],
                   [("if", "n", None, 3, [("show", "x")], [])], None)
        self.check([("a", [("scene", "b"), ("show", "z"), ("scene", "b")], None), ("b", one, None)],
                   [("a", other + [("show", "z")] + one, None)], None)
        self.check([("a", one, None)], [("b", one, None), ("c", [("show", "no")], []), ("d", points(20), None)], None)
        self.check([("a", [("set", "n", 0), ("if", "n", 1, 1, [("scene", "b")], [])], None), ("b", [], [])],
                   [("a", [("set", "n", 0)], None)], None)

    def test_only_for_some_notes(self):
        steps = [("if", "n", 50, 52, [("if", "m", None, -7, [("show", "x")], [])], [])]
        self.steps(steps, [], ({"m": -7, "n": 50}, []))
        self.steps(steps, [], ({"m": -7, "n": 52}, []), start(n=(52, None)))
        self.steps(steps, [], ({"k": 1, "m": -9, "n": 50}, []), start(k=(1, None), m=(None, -9)))
        self.steps(steps, [], None, start(n=(None, 49)))
        self.steps(steps, [], None, start(n=(53, 60)))
        self.steps(steps, [], None, start(m=(-6, None), q=(4, 4)))
        self.steps(steps, [], ({"m": -7, "n": 50, "q": 4}, []), start(q=(4, 4)))
        self.steps(steps, [], None, start(n=(51, 51), m=(3, 3)))
        self.steps(steps, [], ({"m": -8, "n": 51}, []), start(n=(51, 51), m=(-8, -8)))

    def test_at_and_beside_limits(self):
        self.steps([("if", "n", -FAR, FAR, [], [("show", "x")])], [("if", "n", -FAR, FAR - 1, [], [("show", "x")])],
                   ({"n": FAR}, []))
        self.steps([("if", "n", -FAR, FAR, [], [("show", "x")])], [("if", "n", 1 - FAR, FAR, [], [("show", "x")])],
                   ({"n": -FAR}, []))
        self.steps([("add", "n", 7), ("need", "n", 3, None)], [("add", "n", 7), ("need", "n", 4, None)],
                   ({"n": -4}, []))
        self.steps([("need", "n", HUGE, HUGE)], [("need", "n", HUGE, HUGE + 1)], ({"n": HUGE + 1}, []))

    def test_the_fewest_answers_come_first(self):
        one = [options(("x", [choice(1), ("show", "p")]), ("y", [("need", "n", None, 99)]))]
        other = [options(("x", [choice(1), ("show", "q")]), ("y", []))]
        self.steps(one, other, ({"n": 100}, ["y"]))
        self.steps(one, other, ({}, ["x", "w"]), start(n=(None, 99)))
        self.steps([("need", "m", None, FAR)] + one, other, ({"m": FAR + 1}, []))

    def test_then_the_least_notes_then_the_answers(self):
        one = [options(("c", [("need", "n", None, 2)]), ("b", [("need", "n", None, 5)]),
                       ("d", [("need", "n", None, 2)]))]
        other = [options(("c", []), ("b", []), ("d", []))]
        self.steps(one, other, ({"n": 3}, ["c"]))
        self.steps(one, other, ({"n": 6}, ["b"]), start(n=(6, None)))
        two = [choice(2)] + one, [choice(2)] + other
        self.steps(*two, ({"n": 3}, ["w", "c"]))
        self.steps([options(("b", []), ("a", [])), ("show", "x")], [options(("b", []), ("a", []))], ({}, ["a"]))

    def test_results_are_new_objects(self):
        one, other = one_scene(choice(1), ("add", "n", 1)), one_scene(choice(1))
        found = parting(one, other, start(n=(4, None)))
        found[0]["n"] = 9
        found[1].clear()
        self.assertEqual(told(parting(one, other, start(n=(4, None)))), ({"n": 4}, ["w"]))

    def test_the_same_call_returns_the_same(self):
        limits = {"a": (0, 2), "b": (1, None)}
        found = []
        for order in itertools.permutations("ab"):
            row = {name: limits[name] for name in order}
            one = Story([("s", [("choose", [("x", row, []), ("y", {}, [])]), ("scene", "t")], None),
                         ("t", [], [(row, {})])])
            other = Story([("s", [("choose", [("x", row, []), ("y", {}, [])]), ("scene", "t")], None),
                           ("t", [], [(row, {name: ("add", 1) for name in order})])])
            for _ in range(2):
                found.append([told(parting(one, other, Pattern())), told(parting(one, other, Pattern(row)))])
                parting(other, one, Pattern())
        self.assertEqual(found, [[({"b": 1}, ["x", "skip"])] * 2] * 4)


class TooManyTest(unittest.TestCase):

    def raises(self, one, other):
        for pair in [(one, other), (other, one), (one, one)]:
            with self.assertRaises(TooMany):
                parting(Story(pair[0]), Story(pair[1]), start(a=(5, 5)))

    def test_the_first_scene(self):
        self.assertIsNone(parting(one_scene(*points(299)), one_scene(), Pattern()))
        self.raises([("s", points(300), None)], [("s", [], None)])
        self.raises([("s", points(300), None)], [("s", [("show", "x")], None)])

    def test_a_scene_that_no_play_comes_to(self):
        self.assertIsNone(parting(Story([("s", [], None), ("t", points(299), None)]), one_scene(), Pattern()))
        self.raises([("s", [], None), ("t", points(300), None)], [("s", [], None)])
        self.raises([("s", [("set", "q", 1), ("need", "q", 1, 1)], None), ("t", points(300), [])], EXAMPLE)

    def test_runs_of_all_plays_count(self):
        last = ("t", [], [])
        scenes = [("s", points(149) + [("scene", "t")], None), last]
        self.assertIsNone(parting(Story(scenes), Story(scenes), Pattern()))
        self.raises([("s", points(150) + [("scene", "t")], None), last], [("s", [], None)])
        self.raises([("s", [], None), ("q", points(150) + [("scene", "t")], None), last], EXAMPLE)

    def test_two_large_stories(self):
        def ladder(note, k):
            return Story([("s", [("scene", "t")] * 149, None),
                          ("t", [("if", note, 0, None, [("add", note, -10)], [])], None), ("u", [("show", k)], None)])
        self.assertIsNone(parting(ladder("n", "x"), ladder("n", "y"), Pattern()))
        self.assertEqual(told(parting(ladder("n", "x"), ladder("m", "x"), Pattern())), ({}, []))
        self.assertEqual(told(parting(ladder("n", "x"), ladder("m", "x"), start(n=(None, -1)))), ({"n": -1}, []))


class LookTest(unittest.TestCase):
    STARTS = [Pattern(), start(a=(-2, 2)), start(b=(1, None)), start(a=(1, 1)), start(a=(None, -1), b=(-1, 3))]

    def test_small_stories(self):
        counts = {}
        for first in range(3000, 3500):
            maker = Maker(first, "ab"[:1 + first % 2], 3)
            scenes = maker.scenes()
            self.look(counts, scenes, self.changed(maker.rule, scenes), self.STARTS[first % 5])
        for first in range(3500, 3560):
            self.look(counts, Maker(first, "ab", 1).scenes(), Maker(first + 1, "ab", 1).scenes(),
                      self.STARTS[first % 5])
        self.assertGreater(counts[None], 100)
        self.assertGreater(counts[0], 100)
        self.assertGreater(sum(counts[many] for many in counts if many), 20)

    def test_small_stories_with_questions_ahead(self):
        counts = {}
        for first in range(3600, 3800):
            maker = Maker(first, "ab", 2)
            ahead = maker.steps(5, 1, []) + [maker.rule.pick([choice(2), ("choose", [("x", maker.limits(), []), (
                "y", {}, maker.steps(5, 2, []))])])]
            scenes = maker.scenes()
            other = self.changed(maker.rule, scenes)
            for one in (scenes, other):
                one[0] = (one[0][0], ahead + one[0][1], one[0][2])
            self.look(counts, scenes, other, self.STARTS[first % 5])
        self.assertGreater(sum(counts[many] for many in counts if many), 30)

    def look(self, counts, one, other, pattern):
        story, second = Story(one), Story(other)
        try:
            found = told(parting(story, second, pattern))
        except TooMany:
            return
        every = [notes for notes in grid("ab", range(-5, 6)) if Notes(notes) in pattern]
        every = every if "b" in repr(one + other) else [notes for notes in every if notes["b"] == 0]
        if found is None:
            self.assertEqual([play for notes in every for play in all_partings(story, second, notes, 6)], [])
        else:
            self.assertTrue(Notes(found[0]) in pattern)
            most = len(found[1])
            self.assertIn(found[1], [play[1] for play in all_partings(story, second, found[0], most)])
            self.assertFalse(any(is_ahead(play, found) for notes in every
                                 for play in all_partings(story, second, notes, most)))
        many = None if found is None else len(found[1])
        counts[many] = counts.get(many, 0) + 1

    def changed(self, rule, scenes):
        """A copy of the scenes in which one step is another one, or not there."""
        scenes = copy.deepcopy(scenes)
        places = [(steps, at) for name, steps,
                  skip in scenes for steps in self.lists(steps) for at in range(len(steps))]
        if places:
            steps, at = rule.pick(places)
            steps[at:at + 1] = self.other(rule, steps[at])
        return scenes

    def lists(self, steps):
        inner = [side for step in steps if step[0] == "if" for side in step[4:]]
        inner += [option[2] for step in steps if step[0] == "choose" for option in step[1]]
        return [steps] + [deeper for side in inner for deeper in self.lists(side)]

    def other(self, rule, step):
        if rule.number(0, 7) == 0:
            return []
        if step[0] in ("set", "add"):
            return [step[:2] + (step[2] + rule.number(-1, 1),)]
        if step[0] == "need":
            return [step[:3] + (None if step[3] is None else step[3] + 1,)]
        if step[0] == "if":
            return [rule.pick([step[:3] + (None if step[3] is None else step[3] + 1,) + step[4:],
                               step[:4] + (step[5], step[4])])]
        if step[0] == "choose":
            (word, limits, inner), rest = step[1][0], step[1][1:]
            limits = {name: (low, None if high is None else high + 1) for name, (low, high) in limits.items()}
            return [rule.pick([("choose", step[1][::-1]), ("choose", rest or step[1]),
                               ("choose", [(word, limits, inner)] + rest)])]
        return [("show", rule.pick(["x", "y", "z"]))]

    def test_told_otherwise(self):
        looked = 0
        for first in range(3800, 4000):
            scenes = Maker(first, "ab", 1 + first % 3).scenes()
            other = [(name, self.otherwise(steps), skip) for name, steps,
                     skip in scenes] + [("dead", [("show", "x")], [])]
            try:
                self.assertIsNone(parting(Story(scenes), Story(other), Pattern()))
                looked += 1
            except TooMany:
                pass
        self.assertGreater(looked, 150)

    def otherwise(self, steps):
        """Steps that do the same."""
        found = []
        for step in steps:
            if step[0] == "add":
                found += [("add", step[1], step[2] - 3), ("add", step[1], 3)]
            elif step[0] == "set":
                found += [("add", step[1], 4), step]
            elif step[0] == "if":
                one, other = self.otherwise(step[4]), self.otherwise(step[5])
                if step[2] is None and step[3] is not None:
                    found.append(("if", step[1], step[3] + 1, None, other, one))
                else:
                    found.append(step[:4] + (one, other))
            elif step[0] == "choose":
                found.append(("choose", [(word, limits, self.otherwise(inner)) for word, limits, inner in step[1]]))
            else:
                found.append(step)
        return found


if __name__ == "__main__":
    unittest.main()
