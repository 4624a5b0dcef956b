"""[11] and [12]: ways and outcomes; [2] and [4] for them, [5] (a)."""

import itertools
import unittest

from sceneskips.errors import InvalidScene, NoCommon, TooMany
from sceneskips.notes import Change, Notes
from sceneskips.patterns import Pattern
from sceneskips.plays import resumed
from sceneskips.stories import Story
from sceneskips.ways import Way, outcomes, ways

from tests.brute import Looker, Maker, plain
from tests.test_notes import HUGE, comes_first, grid
from tests.test_plays import LONG, one_scene
from tests.test_stories import EXAMPLE

FAR = 10 ** 40


def rows(found):
    """What the ways tell, as plain values."""
    return [(way.pattern.limits(), way.change.parts(), way.answers, way.shown, way.end) for way in found]


def points(many, note="a", first=0):
    """Ifs with many + 1 runs: one for each integer from first on, and one for all others."""
    return [("if", note, k, k, [], []) for k in range(first, first + many)]


def choice(many):
    return ("choose", [(word, {}, []) for word in "wxyz"[:many]])


def lost_runs(many):
    """Steps that have so many runs, all of which are lost; one more goes on."""
    return [("if", "zz", k, k, [("set", "zz", 0), ("need", "zz", 1, 1)], []) for k in range(1, many + 1)]


def distinct_ways(test, found):
    """Check the order of the ways, and that those with the same answers have no common notes."""
    for one, other in zip(found, found[1:]):
        test.assertLessEqual(one.answers, other.answers)
        if one.answers == other.answers:
            test.assertTrue(comes_first(plain(one.pattern.least()), plain(other.pattern.least())))
    for answers, group in itertools.groupby(found, lambda way: way.answers):
        for one, other in itertools.combinations(list(group), 2):
            with test.assertRaises(NoCommon):
                one.pattern & other.pattern


class WaysTest(unittest.TestCase):

    def test_no_steps(self):
        self.assertEqual(rows(ways(one_scene(), "a")), [([], [], [], [], "ended")])

    def test_without_branches(self):
        story = one_scene(("show", "x"), ("add", "a", 2), ("set", "b", 0), ("add", "b", 3), ("show", "y"),
                          ("add", "c", 0))
        self.assertEqual(rows(ways(story, "a")), [([], [("a", "add", 2), ("b", "set", 3)], [], ["x", "y"], "ended")])

    def test_need(self):
        found = rows(ways(one_scene(("add", "a", 2), ("need", "a", 5, None), ("show", "x")), "a"))
        self.assertEqual(found, [([("a", None, 2)], [("a", "add", 2)], [], [], "lost"),
                                 ([("a", 3, None)], [("a", "add", 2)], [], ["x"], "ended")])

    def test_need_that_always_or_never_holds(self):
        self.assertEqual(rows(ways(one_scene(("need", "a", None, None)), "a")), [([], [], [], [], "ended")])
        self.assertEqual(rows(ways(one_scene(("set", "a", 3), ("need", "a", 1, 3)), "a")),
                         [([], [("a", "set", 3)], [], [], "ended")])
        self.assertEqual(rows(ways(one_scene(("set", "a", 3), ("need", "a", 4, None), ("show", "x")), "a")),
                         [([], [("a", "set", 3)], [], [], "lost")])

    def test_if(self):
        found = ways(one_scene(("if", "a", 1, 3, [("show", "yes")], [("show", "no"), ("set", "a", 0)])), "a")
        self.assertEqual([(way.shown, way.end) for way in found], [(["no"], "ended"), (["yes"], "ended"),
                                                                   (["no"], "ended")])
        self.assertEqual(found[1].pattern, Pattern({"a": (1, 3)}))

    def test_sides_that_no_notes_reach(self):
        story = one_scene(("if", "a", 1, None, [("if", "a", 0, None, [("show", "x")], [("show", "never")])],
                           [("if", "a", 2, None, [("choose", [("never", {}, [])])], [("need", "a", None, 0)])]))
        self.assertEqual(rows(ways(story, "a")), [([("a", None, 0)], [], [], [], "ended"),
                                                  ([("a", 1, None)], [], [], ["x"], "ended")])
        self.assertEqual(rows(ways(one_scene(("if", "a", None, None, [], [("show", "never")])), "a")),
                         [([], [], [], [], "ended")])

    def test_need_that_cannot_hold_behind_an_if(self):
        story = one_scene(("if", "a", 1, None, [("need", "a", None, 0), ("show", "never")], [("show", "x")]))
        self.assertEqual(rows(ways(story, "a")), [([("a", None, 0)], [], [], ["x"], "ended"),
                                                  ([("a", 1, None)], [], [], [], "lost")])

    def test_choose(self):
        found = rows(ways(one_scene(("choose", [("sit", {}, [("add", "a", 1)]),
                                                ("go", {"a": (2, None)}, [("show", "x")])])),
                          "a"))
        self.assertEqual(found, [([("a", 2, None)], [], ["go"], ["x"], "ended"),
                                 ([], [("a", "add", 1)], ["sit"], [], "ended")])

    def test_stuck(self):
        found = ways(one_scene(("show", "x"), ("choose", [("y", {"a": (0, 0), "b": (0, None)}, [("show", "z")])])), "a")
        self.assertEqual([way.end for way in found], ["stuck"] * (len(found) - 1) + ["ended"])
        self.assertEqual(rows(found)[-1], ([("a", 0, 0), ("b", 0, None)], [], ["y"], ["x", "z"], "ended"))
        for a, b in itertools.product([-FAR, -1, 0, 1, FAR], repeat=2):
            stuck = [way for way in found[:-1] if Notes({"a": a, "b": b}) in way.pattern]
            self.assertEqual(len(stuck), 0 if a == 0 and b >= 0 else 1)
        self.assertEqual({(tuple(way.answers), tuple(way.shown)) for way in found[:-1]}, {((), ("x",))})

    def test_scenes_without_skips(self):
        story = Story([("a", [("scene", "b"), ("scene", "b")], None),
                       ("b", [("choose", [("x", {}, [("add", "n", 1)]), ("y", {"n": (1, None)}, [])])], None)])
        self.assertEqual(rows(ways(story, "a")), [([], [("n", "add", 2)], ["x", "x"], [], "ended"),
                                                  ([("n", 0, None)], [("n", "add", 1)], ["x", "y"], [], "ended"),
                                                  ([("n", 1, None)], [("n", "add", 1)], ["y", "x"], [], "ended"),
                                                  ([("n", 1, None)], [], ["y", "y"], [], "ended")])
        self.assertEqual(rows(ways(story, "a")), rows(ways(story, "a", skips=True)))

    def test_watched_plays(self):
        story = Story(EXAMPLE)
        self.assertEqual([way.answers for way in ways(story, "start")],
                         [["watch", "go"]] * 2 + [["watch", "sit"]] * 2)
        self.assertEqual(rows(ways(story, "start", skips=False)), rows(ways(story, "start")))
        self.assertEqual(rows(ways(story, "tea")), [([], [], ["go"], [], "ended"),
                                                    ([], [("met", "add", 1)], ["sit"], [], "ended")])

    def test_all_plays(self):
        self.assertEqual(rows(ways(Story(EXAMPLE), "start", skips=True)), [
            ([("met", 0, None)], [("met", "add", 1)], ["skip"], ["again"], "ended"),
            ([("met", None, -1)], [("met", "add", 1)], ["skip"], ["hello"], "ended"),
            ([("met", None, 0)], [], ["watch", "go"], ["hello"], "ended"),
            ([("met", 1, None)], [], ["watch", "go"], ["again"], "ended"),
            ([("met", 0, None)], [("met", "add", 1)], ["watch", "sit"], ["again"], "ended"),
            ([("met", None, -1)], [("met", "add", 1)], ["watch", "sit"], ["hello"], "ended")])

    def test_the_skip_of_the_scene_itself(self):
        story = Story([("a", [("show", "x")], [({}, {"n": ("add", 1)})])])
        self.assertEqual(rows(ways(story, "a", skips=True)), [([], [], [], ["x"], "ended")])

    def test_rows_of_skips(self):
        story = Story([("a", [("scene", "b"), ("show", "x")], None),
                       ("b", [("need", "n", 1, 1)], [({"n": (0, 9)}, {"n": ("set", 5)}),
                                                     ({"n": (5, None)}, {"m": ("add", 2)}),
                                                         ({"n": (1, 3)}, {"m": ("set", 7)})])])
        found = [row for row in rows(ways(story, "a", skips=True)) if row[2] == ["skip"]]
        self.assertEqual(found, [([("n", 0, 9)], [("n", "set", 5)], ["skip"], ["x"], "ended"),
                                 ([("n", None, -1)], [], ["skip"], ["x"], "ended"),
                                 ([("n", 10, None)], [("m", "add", 2)], ["skip"], ["x"], "ended")])

    def test_words_watch_and_skip_of_a_choice(self):
        story = Story([("a", [("choose", [("skip", {}, []), ("watch", {}, [])]), ("scene", "b")], None), ("b", [], [])])
        self.assertEqual([way.answers for way in ways(story, "a")], [["skip", "watch"], ["watch", "watch"]])
        self.assertEqual([way.answers for way in ways(story, "a", skips=True)],
                         [["skip", "skip"], ["skip", "watch"], ["watch", "skip"], ["watch", "watch"]])

    def test_order_of_answers(self):
        story = one_scene(("choose", [("b", {}, []), ("ab", {}, [choice(2)]),
                                      ("a", {}, [("choose", [("z", {"n": (0, None)}, [])])]),
                                      ("aa", {}, [("need", "n", 0, 0), choice(1)])]))
        self.assertEqual([way.answers for way in ways(story, "a")],
                         [["a"], ["a", "z"], ["aa"], ["aa"], ["aa", "w"], ["ab", "w"], ["ab", "x"], ["b"]])
        self.assertEqual([plain(way.pattern.least()) for way in ways(story, "a")[2:4]], [{"n": 1}, {"n": -1}])

    def test_order_of_patterns(self):
        found = ways(one_scene(*points(9, first=-4)), "a")
        self.assertEqual([way.pattern.least().pairs() for way in found],
                         [[]] + [[("a", k)] for k in [1, -1, 2, -2, 3, -3, 4, -4, 5, -5]])
        distinct_ways(self, found)

    def test_way(self):
        for way in ways(LONG, "start", skips=True):
            self.assertIsInstance(way, Way)
            self.assertEqual([type(value) for value in (way.pattern, way.change, way.answers, way.shown, way.end)],
                             [Pattern, Change, list, list, str])
            for notes in [Notes(), Notes({"met": 9, "q": -FAR, "b": 1}), way.pattern.least()]:
                before = plain(notes)
                left = way(notes)
                self.assertEqual(left, way.change(notes))
                left["q"] = 1
                self.assertEqual(plain(notes), before)
                self.assertEqual(way(notes), notes + way.change)

    def test_what_was_returned_may_change(self):
        for skips in [False, True]:
            found = ways(LONG, "start", skips=skips)
            before = rows(found)
            for way in found:
                way.answers.append("x")
                way.shown.clear()
                way.pattern.limits().clear()
                way.change.parts().clear()
                way.pattern.least()["met"] = 77
            self.assertEqual(rows(found), before)
            found.clear()
            self.assertEqual(rows(ways(LONG, "start", skips=skips)), before)

    def test_the_same_call_returns_the_same(self):
        limits = {"a": (0, 2), "b": (1, None)}
        first = None
        for order in itertools.permutations("ab"):
            row = {name: limits[name] for name in order}
            parts = {name: ("add", 1) for name in order}
            story = Story([("s", [("choose", [("x", row, [])]), ("scene", "t")], None),
                           ("t", [choice(2)], [(row, parts)])])
            for _ in range(2):
                told = rows(ways(story, "s", skips=True))
                first = first or told
                self.assertEqual(repr(told), repr(first))
                outcomes(story, "s", Notes())
                ways(story, "t")
        self.assertEqual(story.names(), ["s", "t"])

    def test_no_scene_of_this_name(self):
        for name in ["", "nowhere", "star", "sit"]:
            for skips in [False, True]:
                with self.assertRaises(InvalidScene):
                    ways(Story(EXAMPLE), name, skips=skips)
            with self.assertRaises(InvalidScene):
                outcomes(Story(EXAMPLE), name, Notes())
        with self.assertRaises(InvalidScene):
            ways(one_scene(*points(301)), "b")

    def test_limits_of_many_digits(self):
        story = one_scene(("add", "a", FAR), ("if", "a", 2 * FAR, None, [("add", "a", HUGE)],
                                              [("need", "a", -FAR, None)]))
        found = ways(story, "a")
        self.assertEqual([row[:2] + row[4:] for row in rows(found)],
                         [([("a", -2 * FAR, FAR - 1)], [("a", "add", FAR)], "ended"),
                          ([("a", FAR, None)], [("a", "add", FAR + HUGE)], "ended"),
                          ([("a", None, -2 * FAR - 1)], [("a", "add", FAR)], "lost")])


class LookTest(unittest.TestCase):
    """Small stories: the ways are exactly the plays."""

    def integers(self, found):
        """Integers at the limits of the ways, beside them and far away."""
        ends = {0, FAR, -FAR}
        for way in found:
            for name, low, high in way.pattern.limits():
                ends |= {k + more for k in (low, high) if k is not None for more in (-1, 0, 1)}
        return sorted(ends)

    def check(self, story, scene, names):
        looker = Looker(story.scenes())
        for skips in [False, True]:
            found = ways(story, scene, skips=skips)
            distinct_ways(self, found)
            integers = self.integers(found)
            every = grid(names, integers)
            for notes in every[::len(every) // 60 + 1]:
                start = Notes(notes)
                plays = [(list(play[0]), list(play[1]), play[2], play[3]) for play in looker.plays(scene, notes)[0]
                         if skips or play[5]]
                here = [way for way in found if start in way.pattern]
                self.assertEqual(sorted(plays, key=lambda play: play[0]),
                                 [(way.answers, way.shown, way.end, plain(way(start))) for way in here])
                for way in here[:2]:
                    play = resumed(story, start, way.answers, scene=scene)
                    self.assertEqual((play.state, play.shown, play.notes), (way.end, way.shown, start + way.change))

    def test_small_stories(self):
        many = 0
        for first in range(150):
            names = "abc"[:1 + first % 3]
            story = Story(Maker(first, names, 1 + first % 3).scenes())
            for scene in story.names():
                try:
                    ways(story, scene, skips=True)
                except TooMany:
                    continue
                self.check(story, scene, names)
                many += 1
        self.assertGreater(many, 200)

    def test_runs_of_small_stories(self):
        # Wide enough for all limits of these stories, however their notes change.
        integers = list(range(-9, 10)) + [-60, 60]
        many = 0
        for first in range(150):
            names = "ab"[:1 + first % 2]
            story = Story(Maker(first, names, 2 + first % 2).scenes())
            looker = Looker(story.scenes())
            scene = story.names()[0]
            plays = [play for notes in grid(names, integers) for play in looker.plays(scene, notes)[0]]
            for skips in [False, True]:
                runs = len({play[4] for play in plays if skips or play[5]})
                if runs <= 300:
                    for more, error in [(300 - runs, False), (301 - runs, True)]:
                        self.assertEqual(self.has_too_many(story, more, skips), error, (first, skips, runs, more))
                    many += 1
                else:
                    self.assertTrue(self.has_too_many(story, 0, skips))
        self.assertGreater(many, 200)

    def has_too_many(self, story, more, skips):
        # The first scene may have a skip, but its runs are those of its steps.
        scenes = [("top", lost_runs(more) + [("scene", "mid")], None), ("mid", story.scenes()[0][1], None)]
        scenes += story.scenes()
        try:
            ways(Story(scenes), "top", skips=skips)
        except TooMany:
            return True
        return False


class TooManyTest(unittest.TestCase):

    def check(self, many, steps, more=(), skips=(False, True)):
        """Check the number of runs of scene a: with so many others there are 300, with one more too many."""
        story = Story([("a", steps, None)] + list(more))
        for flag in skips:
            for extra, error in [(300 - many, False), (301 - many, True)]:
                scenes = [("top", lost_runs(extra) + [("scene", "a")], None)] + story.scenes()
                if error:
                    with self.assertRaises(TooMany):
                        ways(Story(scenes), "top", skips=flag)
                else:
                    ways(Story(scenes), "top", skips=flag)

    def test_one_run(self):
        self.check(1, [])
        self.check(1, [("show", "x"), ("set", "a", 1), ("add", "a", 1)])
        self.check(1, [("need", "a", 0, 5)])
        self.check(1, [("need", "a", 0, None), ("need", "b", 0, None), ("need", "a", 3, None)])
        self.check(1, [("set", "a", 1), ("need", "a", 0, 0)])
        self.check(1, [("if", "a", None, None, [], [])])
        self.check(1, [("set", "a", 3), ("if", "a", 2, None, [], [])])
        self.check(1, [("set", "a", 3), ("if", "a", 4, None, [], [])])
        self.check(1, [choice(1)])

    def test_sides(self):
        self.check(2, [("if", "a", 0, None, [], [])])
        self.check(2, [("if", "a", 0, None, [], []), ("if", "a", 0, None, [], [])])
        self.check(3, [("if", "a", 0, None, [], []), ("if", "a", 1, None, [], [])])
        self.check(4, [("if", "a", 0, None, [], []), ("if", "b", 0, None, [], [])])
        self.check(2, [("if", "a", 3, 3, [], [])])

    def test_needs_between(self):
        # The play that is lost has taken no side, or has given no answer.
        self.check(3, [("need", "a", 0, None), ("if", "b", 0, None, [], [])])
        self.check(2, [("if", "b", 0, None, [], []), ("need", "a", 0, None)])
        self.check(4, [("need", "a", 0, None), choice(3)])
        self.check(3, [choice(3), ("need", "a", 0, None)])
        self.check(3, [("need", "a", 1, 1), ("if", "b", 0, None, [("need", "a", 1, None)], [])])
        self.check(4, [("need", "a", 1, 1), ("if", "b", 0, None, [("need", "c", 1, None), choice(1)], [])])

    def test_choices(self):
        self.check(4, [choice(4)])
        self.check(12, [choice(4), choice(3)])
        self.check(5, [("choose", [("x", {}, [choice(3)]), ("y", {}, []), ("z", {}, [("need", "a", 0, None)])])])
        self.check(2, [("choose", [("x", {"a": (0, None)}, [])])])
        self.check(4, [("choose", [("x", {"a": (0, None), "b": (1, 5)}, []), ("y", {"a": (3, 4)}, [choice(2)])])])
        self.check(1, [("set", "a", 0), ("choose", [("x", {"a": (0, None)}, []), ("y", {"a": (1, None)}, [])])])
        self.check(1, [("set", "a", 0), ("choose", [("x", {"a": (1, None)}, [])])])
        self.check(1, [("need", "a", 0, None), ("choose", [("x", {"a": (None, -1)}, [])])])

    def test_skips(self):
        b = ("b", [choice(2)], [({"a": (0, 3)}, {}), ({"a": (2, 5), "b": (0, 0)}, {}), ({"a": (1, 2)}, {})])
        self.check(2, [("scene", "b")], [b], skips=[False])
        # The third row never counts: watch has two runs, skip two rows and no row.
        self.check(5, [("scene", "b")], [b], skips=[True])
        self.check(4, [("scene", "b")], [("b", [choice(2)], [({"a": (0, 3)}, {}), ({}, {})])], skips=[True])
        self.check(3, [("scene", "b")], [("b", [choice(2)], [])], skips=[True])
        self.check(2, [("scene", "b")], [("b", [], [({}, {}), ({}, {}), ({"a": (0, 0)}, {})])], skips=[True])
        self.check(4, [("scene", "b"), ("scene", "b")], [("b", [], [])], skips=[True])
        self.check(1, [("scene", "b"), ("scene", "b")], [("b", [], [])], skips=[False])
        self.check(3, [("scene", "b")], [("b", [("scene", "c")], []), ("c", [], [])], skips=[True])
        self.check(9, [("scene", "b"), ("need", "a", 9, 9)], [("b", [], [({"a": (k, k)}, {}) for k in range(7)])],
                   skips=[True])

    def test_watched_plays_and_all_plays(self):
        story = Story([("a", [("scene", "b")] * 2 + points(24), None), ("b", [choice(3)], [])])
        self.assertEqual(len({tuple(way.answers) for way in ways(story, "a")}), 9)
        with self.assertRaises(TooMany):
            ways(story, "a", skips=True)
        self.assertEqual(outcomes(story, "a", Notes({"a": 5})), [Notes({"a": 5})])

    def test_three_hundred(self):
        for skips in [False, True]:
            steps = [choice(4), choice(3)] + points(24)
            self.assertEqual(len(ways(one_scene(*steps), "a", skips=skips)), 12 * 24 + 12 * 2)
            ways(one_scene(*steps, ("need", "b", 0, None)), "a", skips=skips)
            for other in [[("need", "b", 0, None)] + steps, steps + points(1, first=24), steps[:1] + steps]:
                with self.assertRaises(TooMany):
                    ways(one_scene(*other), "a", skips=skips)

    def test_outcomes(self):
        steps = [choice(4), choice(3)] + points(24)
        for notes in [Notes(), Notes({"a": 3}), Notes({"a": -5, "b": 1})]:
            self.assertEqual(outcomes(one_scene(*steps), "a", notes), [notes])
            with self.assertRaises(TooMany):
                outcomes(one_scene(*steps, *points(1, first=24)), "a", notes)
        with self.assertRaises(InvalidScene):
            outcomes(one_scene(*steps, *points(1, first=24)), "b", Notes())
        # Watched plays count, those with skips do not.
        story = Story([("a", steps + [("scene", "b")], None), ("b", [], [])])
        self.assertEqual(outcomes(story, "a", Notes({"q": 1})), [Notes({"q": 1})])

    def test_all_notes_together_count(self):
        for notes in [Notes(), Notes({"a": 500})]:
            with self.assertRaises(TooMany):
                outcomes(one_scene(*points(300)), "a", notes)

    def test_very_many(self):
        for scenes in [[("a", [choice(4)] * 30, None)], [("a", [("scene", "b")] * 50, None),
                                                         ("b", [choice(4)] * 10, [])],
                       [("a", [("if", name, k, None, [], []) for name in "abcd" for k in range(14)], None)]]:
            for skips in [False, True]:
                with self.assertRaises(TooMany):
                    ways(Story(scenes), "a", skips=skips)


class LargeTest(unittest.TestCase):

    def large(self, *inner):
        """A scene of size 601 that does the inner steps 150 times."""
        return Story([("a", [("scene", "b")] * 10, None), ("b", [("scene", "c")] * 15, None), ("c", list(inner), None)])

    def test_one_run(self):
        found = ways(self.large(("show", "x"), ("add", "a", 1), ("set", "b", 2)), "a")
        self.assertEqual(rows(found), [([], [("a", "add", 150), ("b", "set", 2)], [], ["x"] * 150, "ended")])

    def test_one_run_with_needs(self):
        found = ways(self.large(("need", "a", 0, None), ("add", "a", -1), ("show", "x")), "a")
        self.assertEqual(len(found), 151)
        self.assertEqual(rows(found)[-1], ([("a", 149, None)], [("a", "add", -150)], [], ["x"] * 150, "ended"))
        for way in found[:-1]:
            k = len(way.shown)
            self.assertEqual((way.end, way.change.parts()), ("lost", [("a", "add", -k)] if k else []))

    def test_one_side_of_every_if(self):
        story = Story([("top", [("need", "a", 0, None), ("scene", "a")], None)] +
                      self.large(("if", "a", 0, None, [("add", "a", 1)], [("show", "never")])).scenes())
        found = ways(story, "top")
        self.assertEqual(rows(found), [([("a", 0, None)], [("a", "add", 150)], [], [], "ended"),
                                       ([("a", None, -1)], [], [], [], "lost")])

    def test_gaps_in_four_notes(self):
        # The plays that go on have 51 stretches of each note: they must not be taken one by one.
        inner = [("if", name, 1, 1, [("need", name, 0, 0)], [("add", name, 2)]) for name in "abcd"]
        story = Story([("a", [("scene", "b")] * 50, [({}, {})]), ("b", inner, None)])
        self.assertEqual(outcomes(story, "a", Notes()), [Notes({name: 100 for name in "abcd"})])
        self.assertEqual(outcomes(story, "a", Notes({"a": 3, "c": -99})),
                         [Notes({"a": 103, "b": 100, "c": 1, "d": 100})])
        self.assertEqual(outcomes(story, "a", Notes({"d": -97})), [])


class OutcomesTest(unittest.TestCase):

    def test_outcomes(self):
        self.assertEqual(outcomes(Story(EXAMPLE), "tea", Notes()), [Notes(), Notes({"met": 1})])
        self.assertEqual(outcomes(Story(EXAMPLE), "tea", Notes({"met": -1})), [Notes(), Notes({"met": -1})])
        self.assertEqual(outcomes(Story(EXAMPLE), "start", Notes({"q": -FAR})),
                         [Notes({"q": -FAR}), Notes({"q": -FAR, "met": 1})])

    def test_order(self):
        story = one_scene(("choose", [(word, {}, [("set", "a", a), ("set", "b", b)]) for word, a, b in
                                      [("m", 3, 0), ("n", -1, 0), ("o", 2, 0), ("p", 1, 1), ("q", 0, 1), ("r", 1, 0),
                                       ("s", 0, 0), ("t", 0, -1), ("u", 1, -1)]]))
        self.assertEqual([plain(notes) for notes in outcomes(story, "a", Notes({"a": 9}))],
                         [{}, {"b": 1}, {"b": -1}, {"a": 1}, {"a": -1}, {"a": 1, "b": 1}, {"a": 1, "b": -1}, {"a": 2},
                          {"a": 3}])

    def test_no_duplicates(self):
        story = one_scene(choice(4), choice(4), ("choose", [("x", {}, [("set", "a", 1)]),
                                                            ("y", {}, [("add", "a", 1)])]))
        self.assertEqual(outcomes(story, "a", Notes()), [Notes({"a": 1})])
        self.assertEqual(outcomes(story, "a", Notes({"a": -1})), [Notes(), Notes({"a": 1})])

    def test_only_plays_that_end_as_ended(self):
        story = one_scene(("choose", [("x", {}, [("set", "b", 1), ("need", "a", 1, None)]),
                                      ("y", {}, [("set", "b", 2), ("choose", [("z", {"a": (2, 2)}, [])])])]))
        for a, left in [(0, []), (1, [1]), (2, [1, 2]), (3, [1])]:
            self.assertEqual([notes["b"] for notes in outcomes(story, "a", Notes({"a": a}))], left)

    def test_only_watched_plays(self):
        story = Story([("a", [("scene", "b")], [({}, {"a": ("set", 9)})]),
                       ("b", [("add", "a", 1)], [({}, {"a": ("set", 5)})])])
        self.assertEqual(outcomes(story, "a", Notes()), [Notes({"a": 1})])
        self.assertEqual(outcomes(story, "b", Notes({"a": -1})), [Notes()])

    def test_copies(self):
        notes = Notes({"met": 2})
        found = outcomes(Story(EXAMPLE), "tea", notes)
        self.assertEqual([type(value) for value in [found] + found], [list, Notes, Notes])
        found[0]["met"] = 50
        found.clear()
        self.assertEqual(notes, Notes({"met": 2}))
        self.assertEqual(outcomes(Story(EXAMPLE), "tea", notes), [Notes({"met": 2}), Notes({"met": 3})])

    def test_small_stories(self):
        for first in range(200, 300):
            names = "abc"[:1 + first % 3]
            story = Story(Maker(first, names, 1 + first % 3).scenes())
            looker = Looker(story.scenes())
            for scene, notes in itertools.product(story.names(), grid(names, [-3, 0, 2])[:9]):
                plays = [play[3] for play in looker.plays(scene, notes)[0] if play[5] and play[2] == "ended"]
                try:
                    found = [plain(item) for item in outcomes(story, scene, Notes(notes))]
                except TooMany:
                    continue
                self.assertEqual(sorted(map(repr, found)), sorted({repr(item) for item in map(sorted_dict, plays)}))
                for one, other in zip(found, found[1:]):
                    self.assertTrue(comes_first(one, other))


def sorted_dict(notes):
    return {name: notes[name] for name in sorted(notes)}


if __name__ == "__main__":
    unittest.main()
