"""[13]: right skips, tables and exact scenes; [2] and [4] for them, [5] (b)."""

import itertools
import unittest
from unittest import mock

from sceneskips import exact
from sceneskips.checks import is_table, loose_notes, table, wrong_notes
from sceneskips.errors import InvalidScene, NoCommon, NoSkip, TooMany
from sceneskips.notes import Notes
from sceneskips.patterns import Pattern, least_outside
from sceneskips.plays import resumed
from sceneskips.stories import Story
from sceneskips.ways import ways

from tests.brute import Looker, Maker, plain, skipped
from tests.test_notes import HUGE, comes_first, grid
from tests.test_plays import one_scene
from tests.test_stories import EXAMPLE
from tests.test_ways import FAR, choice, points

ADD = {"a": ("add", 1)}


def skip_of(skip, *steps):
    """A story with one scene that has this skip."""
    return Story([("s", list(steps), skip)])


def options(*rows):
    """A choice with options that have no limits."""
    return ("choose", [(word, {}, list(steps)) for word, steps in rows])


def told(items):
    return None if items is None else [(pattern.limits(), answers) for pattern, answers in items]


class WrongTest(unittest.TestCase):

    def check(self, story, wanted, scene="s"):
        found = wrong_notes(story, scene)
        self.assertEqual(None if found is None else plain(found), wanted)
        items = table(story, scene)
        self.assertEqual(items is None, wanted is not None)
        if items is not None:
            self.assertTrue(is_table(story, scene, items))

    def test_right(self):
        self.check(Story(EXAMPLE), None, "tea")
        self.check(skip_of([({}, ADD)], ("add", "a", 1)), None)
        self.check(skip_of([], ("show", "x")), None)
        self.check(skip_of([]), None)
        self.check(skip_of([({}, {"a": ("set", 3)})], ("set", "a", 1), ("add", "a", 2)), None)
        self.check(skip_of([({"a": (0, None)}, ADD), ({}, {"a": ("set", 0)})],
                           ("if", "a", 0, None, [("add", "a", 1)], [("set", "a", 0)])), None)

    def test_wrong_at_all_notes(self):
        self.check(skip_of([], ("add", "a", 1)), {})
        self.check(skip_of([({}, {"b": ("add", -1)})], choice(4)), {})
        self.check(skip_of([({}, {"a": ("set", 2)})], ("set", "a", 1)), {})
        self.check(skip_of([({}, {})], ("need", "a", 1, None), ("need", "a", None, 0)), {})

    def test_sets_that_leave_the_same_at_some_notes(self):
        self.check(skip_of([], ("set", "a", 5)), {})
        self.check(skip_of([], ("set", "a", 0)), {"a": 1})
        self.check(skip_of([({}, {"a": ("set", 0)})]), {"a": 1})
        self.check(skip_of([({}, {"a": ("set", 1)})], ("add", "a", 1)), {"a": 1})
        self.check(skip_of([], ("set", "a", 0), ("set", "b", 0)), {"b": 1})
        self.check(skip_of([({"a": (0, 0), "b": (2, 2)}, {})], ("set", "a", 0), ("set", "b", 2)), {})
        self.check(skip_of([({}, {"b": ("set", 0)})], options(("x", [("set", "b", 0)]), ("y", [("add", "b", -1)]))),
                   None)

    def test_least_notes_between_limits(self):
        # Right up to 4 and from 8 on: between these there is no limit.
        story = skip_of([], ("if", "a", None, 4, [], [("if", "a", 8, None, [], [("add", "a", 1)])]))
        self.check(story, {"a": 5})
        story = skip_of([], options(("x", [("need", "a", None, 4)]), ("y", [("need", "a", -3, 1), ("add", "a", 0)]),
                                    ("z", [("need", "a", 6, None)])))
        self.check(story, {"a": 5})

    def test_least_notes_beside_limits_of_changed_notes(self):
        story = skip_of([], ("add", "a", -7), ("need", "a", None, 3), ("add", "a", 7))
        self.check(story, {"a": 11})
        story = skip_of([({"a": (-3, 3)}, {})], ("if", "a", -5, 3, [], [("add", "b", 1)]))
        self.check(story, {"a": 4})
        story = skip_of([({"a": (-5, 3)}, {}), ({}, {"b": ("add", 1)})], ("if", "a", -5, 5, [], [("add", "b", 1)]))
        self.check(story, {"a": 4})

    def test_least_notes_of_several_names(self):
        story = skip_of([], options(("x", [("need", "a", -2, 2)]),
                                    ("y", [("need", "b", -1, 3), ("need", "a", None, 4)]),
                                    ("z", [("need", "b", None, 2)])))
        self.check(story, {"a": 3, "b": 4})
        story = skip_of([], options(("x", [("need", "a", -1, 2)]), ("y", [("need", "b", -1, 3), ("need", "a", -9, 4)])))
        self.check(story, {"a": -2, "b": -2})
        story = skip_of([], options(("x", [("need", "a", -1, 2)]), ("y", [("need", "b", -1, 3)])))
        self.check(story, {"a": -2, "b": -2})

    def test_outcomes_that_come_from_equal_integers(self):
        # set and add leave the same at one integer only.
        story = skip_of([({"a": (4, None)}, {"a": ("set", 4)})], ("if", "a", 5, None, [("set", "a", 4)], []))
        self.check(story, None)
        story = skip_of([({"a": (4, 4)}, {"a": ("set", 6)}), ({}, {"a": ("add", 2)})], ("add", "a", 2))
        self.check(story, None)
        story = skip_of([({"a": (4, 5)}, {"a": ("set", 6)}), ({}, {"a": ("add", 2)})], ("add", "a", 2))
        self.check(story, {"a": 5})

    def test_lost_and_stuck(self):
        self.check(skip_of([], ("need", "a", -3, None)), {"a": -4})
        self.check(skip_of([], ("need", "a", -3, 3)), {"a": 4})
        self.check(skip_of([], ("choose", [("x", {"a": (-3, 2)}, [])])), {"a": 3})
        self.check(skip_of([], ("choose", [("x", {"a": (-3, 2)}, []), ("y", {"b": (1, None), "a": (0, 9)}, [])])),
                   {"a": 3})
        self.check(skip_of([], ("choose", [("x", {"a": (-3, 2)}, []), ("y", {"b": (None, 3), "a": (0, 9)}, [])])),
                   {"a": -4})
        self.check(skip_of([], options(("x", [("need", "a", 0, None)]), ("y", []))), None)

    def test_one_of_the_outcomes_is_enough(self):
        rows = [("x", [("add", "a", 1)]), ("y", [("set", "b", 3)]), ("z", [("add", "a", 1), ("set", "b", 3)])]
        for parts, wanted in [(ADD, None), ({"b": ("set", 3)}, None), ({"b": ("set", 3), **ADD}, None), ({}, {}),
                              ({"b": ("add", 1)}, {}), ({"b": ("add", 3)}, {"b": 1})]:
            self.check(skip_of([({}, parts)], options(*rows)), wanted)
        self.check(skip_of([({"a": (0, None)}, ADD), ({"a": (None, -2)}, {"b": ("set", 3)})], options(*rows)),
                   {"a": -1})

    def test_rows_that_overlap(self):
        steps = ("if", "a", 0, None, [("add", "a", 1)], [("add", "b", 1)])
        first, second = ({"a": (0, None)}, ADD), ({"a": (-5, 5)}, {"b": ("add", 1)})
        self.check(skip_of([first, second], steps), {"a": -6})
        self.check(skip_of([second, first], steps), {})
        self.check(skip_of([first, second, ({}, {"b": ("add", 1)})], steps), None)
        self.check(skip_of([first, ({}, {"b": ("add", 1)}), second], steps), None)
        self.check(skip_of([({"a": (3, 3)}, {}), first, ({}, {"b": ("add", 1)})], steps), {"a": 3})

    def test_no_row_that_holds(self):
        self.check(skip_of([({"a": (1, None)}, ADD)], ("if", "a", 1, None, [("add", "a", 1)], [])), None)
        self.check(skip_of([({"a": (2, None)}, ADD)], ("if", "a", 1, None, [("add", "a", 1)], [])), {"a": 1})

    def test_notes_that_only_the_rows_name(self):
        self.check(skip_of([({"q": (7, 9)}, {"a": ("add", 5)}), ({}, ADD)], ("add", "a", 1)), {"q": 7})
        self.check(skip_of([({"q": (None, -2)}, {"r": ("set", 0)}), ({}, ADD)], ("add", "a", 1)), {"q": -2})
        self.check(skip_of([({}, {"r": ("set", 0)})]), {"r": 1})
        self.check(skip_of([({"q": (7, 9)}, ADD), ({"r": (0, None)}, ADD), ({}, ADD)], ("add", "a", 1)), None)

    def test_scenes_within_it(self):
        # What counts is what watched plays leave, not what the skips within it leave.
        story = Story([("s", [("scene", "t"), ("scene", "t")], [({}, {"a": ("add", 3)})]),
                       ("t", [options(("x", [("add", "a", 1)]), ("y", [("add", "a", 2)]))], [({}, {"a": ("add", 7)})])])
        self.check(story, None)
        self.check(story, {}, "t")
        self.check(story.with_skip("s", [({}, {"a": ("add", 14)})]), {})
        self.check(story.with_skip("t", None), None)

    def test_many_digits(self):
        self.check(skip_of([], ("need", "a", -FAR, FAR - 1)), {"a": FAR})
        self.check(skip_of([({"a": (HUGE, HUGE)}, ADD)]), {"a": HUGE})
        self.check(skip_of([({}, {"a": ("set", FAR)})], ("add", "a", -FAR)), {})

    def test_gaps_in_four_notes(self):
        inner = [("if", name, 1, 1, [("need", name, 0, 0)], [("add", name, 2)]) for name in "abcd"]
        story = Story([("s", [("scene", "t")] * 50, [({}, {name: ("add", 100) for name in "abcd"})]),
                       ("t", inner, None)])
        self.assertEqual(wrong_notes(story, "s"), Notes({"d": 1}))
        rows = [({name: (-97, 1)}, {"z": ("set", 1)}) for name in "abc"]
        self.assertEqual(wrong_notes(story.with_skip("s", rows + story.scenes()[0][2]), "s"), Notes())
        self.assertEqual(loose_notes(story, "s"), Notes({"d": 1}))

    def test_small_stories(self):
        right, wrong = 0, 0
        for first in range(400, 550):
            names = "abc"[:1 + first % 3]
            story = Story(Maker(first, names, 1 + first % 3).scenes())
            looker = Looker(story.scenes())
            every = grid(names, range(-7, 8))[::1 if len(names) < 3 else 17]
            for scene, steps, skip in story.scenes():
                if skip is None:
                    continue
                try:
                    found = wrong_notes(story, scene)
                except TooMany:
                    continue
                if found is None:
                    right += 1
                    self.assertFalse(any(looker.wrong(scene, notes) for notes in every))
                    self.assertTrue(is_table(story, scene, table(story, scene)))
                else:
                    wrong += 1
                    self.assertTrue(looker.wrong(scene, plain(found)))
                    self.assertFalse(any(looker.wrong(scene, notes) for notes in every
                                         if comes_first(notes, plain(found))))
                    self.assertIsNone(table(story, scene))
        self.assertGreater(right, 40)
        self.assertGreater(wrong, 100)


class TableTest(unittest.TestCase):

    def test_table_shows_it(self):
        looked = 0
        for first in range(600, 680):
            names = "ab"[:1 + first % 2]
            story = Story(Maker(first, names, 2).scenes())
            for scene, steps, skip in story.scenes():
                try:
                    items = None if skip is None else table(story, scene)
                except TooMany:
                    continue
                if items is None:
                    continue
                looked += 1
                self.assertIsNone(least_outside(Pattern(), [pattern for pattern, answers in items]))
                for notes in grid(names, [-FAR, -3, -2, -1, 0, 1, 2, 3, FAR]):
                    for pattern, answers in items:
                        if Notes(notes) in pattern:
                            play = resumed(story, Notes(notes), answers, scene=scene)
                            self.assertEqual(play.state, "ended")
                            self.assertEqual(play.notes, Notes(skipped(skip, notes)[1]))
        self.assertGreater(looked, 25)

    def test_kinds_of_values(self):
        items = table(Story(EXAMPLE), "tea")
        self.assertIs(type(items), list)
        for item in items:
            self.assertEqual([type(item), type(item[0]), type(item[1])], [tuple, Pattern, list])

    def test_copies(self):
        story = Story(EXAMPLE)
        before = told(table(story, "tea"))
        items = table(story, "tea")
        items[0][1].append("x")
        items[0][0].limits().append(("a", 1, 2))
        items.clear()
        self.assertEqual(told(table(story, "tea")), before)
        notes = wrong_notes(story.with_skip("tea", [({"met": (3, None)}, {"met": ("add", 5)})]), "tea")
        notes["met"] = 9
        self.assertEqual(wrong_notes(story.with_skip("tea", [({"met": (3, None)}, {"met": ("add", 5)})]), "tea"),
                         Notes({"met": 3}))
        self.assertEqual(story, Story(EXAMPLE))

    def test_items_do_not_share_lists(self):
        items = table(skip_of([], ("if", "a", 1, 3, [], []), choice(1)), "s")
        self.assertGreater(len(items), 2)
        for at, item in enumerate(items):
            item[1].append(str(at))
        self.assertEqual([item[1] for item in items], [["w", str(at)] for at in range(len(items))])

    def test_the_same_call_returns_the_same(self):
        limits = {"a": (0, 2), "b": (1, None), "c": (None, 4)}
        first = None
        for order in itertools.permutations("abc"):
            row = {name: limits[name] for name in list(order)[:2]}
            if set(row) == {"a", "b"}:
                story = skip_of([(row, {}), ({"c": (0, 0)}, {})], choice(3), ("if", "a", 0, None, [choice(2)], []))
                for _ in range(2):
                    found = told(table(story, "s"))
                    first = first or found
                    self.assertEqual(repr(found), repr(first))
                    wrong_notes(story, "s")
                    loose_notes(story, "s")


# The play goes on with up where a is at least 1, with down where it is at most 3, with both between.
BOTH = skip_of([({"a": (2, None)}, {"b": ("set", 1)}), ({}, {"b": ("set", 2)})],
               options(("up", [("need", "a", 1, None), ("set", "b", 1)]),
                       ("down", [("need", "a", None, 3), ("set", "b", 2)])))


class IsTableTest(unittest.TestCase):

    def check(self, story, rows, wanted):
        items = [(Pattern(limits), list(answers)) for limits, answers in rows]
        before = told(items)
        self.assertIs(is_table(story, "s", items), wanted, rows)
        self.assertIs(is_table(story, "s", items[::-1]), wanted, rows)
        self.assertIs(is_table(story, "s", items + items), wanted, rows)
        self.assertEqual(told(items), before)

    def test_empty(self):
        self.check(BOTH, [], False)
        self.check(skip_of([]), [], False)

    def test_tables(self):
        self.check(skip_of([]), [({}, [])], True)
        self.check(BOTH, [({"a": (2, None)}, ["up"]), ({"a": (None, 1)}, ["down"])], True)
        self.check(BOTH, [({"a": (2, 2)}, ["up"]), ({"a": (2, None)}, ["up"]), ({"a": (None, 1)}, ["down"]),
                          ({"a": (-5, -5), "c": (0, None)}, ["down"])], True)

    def test_one_pattern_left_out(self):
        rows = [({"a": (2, 5)}, ["up"]), ({"a": (6, None)}, ["up"]), ({"a": (None, 0)}, ["down"]),
                ({"a": (1, 1)}, ["down"])]
        self.check(BOTH, rows, True)
        for at in range(4):
            self.check(BOTH, rows[:at] + rows[at + 1:], False)

    def test_patterns_that_are_too_narrow(self):
        self.check(BOTH, [({"a": (3, None)}, ["up"]), ({"a": (None, 1)}, ["down"])], False)
        self.check(BOTH, [({"a": (2, None)}, ["up"]), ({"a": (None, 0)}, ["down"])], False)
        self.check(BOTH, [({"a": (2, FAR)}, ["up"]), ({"a": (None, 1)}, ["down"])], False)
        self.check(BOTH, [({"a": (2, None)}, ["up"]), ({"a": (None, 1), "z": (None, 5)}, ["down"])], False)

    def test_patterns_that_are_too_wide(self):
        # With a 1, up is possible and ends, but does not leave what the skip leaves; with a 0, it is lost.
        self.check(BOTH, [({"a": (1, None)}, ["up"]), ({"a": (None, 1)}, ["down"])], False)
        self.check(BOTH, [({"a": (2, None)}, ["up"]), ({"a": (None, 2)}, ["down"])], False)
        self.check(BOTH, [({"a": (2, None)}, ["up"]), ({"a": (None, 1)}, ["down"]), ({"a": (-9, -9)}, ["up"])], False)
        self.check(BOTH, [({}, ["up"]), ({}, ["down"])], False)

    def test_answers_that_are_not_possible(self):
        right = [({"a": (2, None)}, ["up"]), ({"a": (None, 1)}, ["down"])]
        for answers in [[], ["up", "up"], ["down", "up"], ["left"], ["watch"], ["skip"], [""], ["up down"], ["UP"]]:
            self.check(BOTH, right + [({"a": (4, 5)}, answers)], False)
            self.check(BOTH, right[1:] + [({"a": (2, None)}, answers)], False)

    def test_answers_that_are_possible_at_some_notes(self):
        story = skip_of([], ("choose", [("x", {"a": (0, None)}, []), ("y", {"a": (None, 5), "b": (0, 1)}, []),
                                        ("z", {}, [])]))
        self.check(story, [({}, ["z"])], True)
        self.check(story, [({}, ["x"]), ({}, ["z"])], False)
        self.check(story, [({"a": (0, None)}, ["x"]), ({"a": (None, -1)}, ["z"])], True)
        self.check(story, [({"a": (0, None)}, ["x"]), ({"a": (None, -1), "b": (0, 1)}, ["y"]),
                           ({"b": (2, None)}, ["z"]),
                           ({"b": (None, -1)}, ["z"])], True)
        self.check(story, [({"a": (0, None)}, ["x"]), ({"a": (None, -1)}, ["y"]), ({}, ["z"])], False)

    def test_too_few_and_too_many_answers(self):
        story = skip_of([], ("if", "a", 0, None, [options(("x", []), ("y", []))], []), choice(1))
        self.check(story, [({"a": (0, None)}, ["x", "w"]), ({"a": (None, -1)}, ["w"])], True)
        self.check(story, [({"a": (0, None)}, ["x"]), ({"a": (None, -1)}, ["w"])], False)
        self.check(story, [({"a": (0, None)}, ["x", "w", "w"]), ({"a": (None, -1)}, ["w"])], False)
        self.check(story, [({"a": (-1, None)}, ["x", "w"]), ({"a": (None, -1)}, ["w"])], False)
        self.check(story, [({"a": (0, None)}, ["x", "w"]), ({"a": (None, 0)}, ["w"])], False)

    def test_skip_among_the_answers(self):
        story = Story([("s", [("scene", "t")], []), ("t", [choice(1)], [])])
        self.check(story, [({}, ["watch", "w"])], True)
        self.check(story, [({}, ["skip"])], False)
        self.check(story, [({}, ["watch", "w"]), ({"a": (1, 1)}, ["skip"])], False)
        story = skip_of([], options(("skip", []), ("watch", [("add", "a", 1)])))
        self.check(story, [({}, ["skip"])], True)
        self.check(story, [({}, ["watch"])], False)

    def test_plays_that_end_badly(self):
        story = skip_of([], options(("x", []), ("y", [("need", "a", 0, None)]),
                                    ("z", [("choose", [("w", {"a": (0, None)}, [])])])))
        self.check(story, [({"a": (0, None)}, ["y"]), ({"a": (None, -1)}, ["x"])], True)
        self.check(story, [({"a": (-1, None)}, ["y"]), ({"a": (None, -1)}, ["x"])], False)
        self.check(story, [({"a": (0, None)}, ["z", "w"]), ({"a": (None, -1)}, ["x"])], True)
        self.check(story, [({"a": (0, None)}, ["z", "w"]), ({"a": (None, -1)}, ["z"])], False)

    def test_names_that_the_scene_does_not_have(self):
        self.check(skip_of([]), [({"q": (0, None)}, []), ({"q": (None, -1)}, [])], True)
        self.check(skip_of([]), [({"q": (1, None)}, []), ({"q": (None, -1)}, [])], False)
        names = ["m", "n", "o", "p", "q", "r", "s", "t"]
        rows = [({name: (0, None) for name in names}, [])] + [({name: (None, -1)}, []) for name in names]
        self.check(skip_of([]), rows, True)
        for at in range(len(rows)):
            self.check(skip_of([]), rows[:at] + rows[at + 1:], False)

    def test_notes_covered_only_together(self):
        self.check(skip_of([]), [({"a": (None, 2)}, []), ({"b": (0, None)}, []), ({"a": (3, 9), "b": (None, -1)}, []),
                                 ({"a": (10, None), "c": (0, None)}, []), ({"c": (None, -1)}, [])], True)

    def test_a_wrong_skip_has_no_table(self):
        story = skip_of([({"a": (5, 5)}, {"b": ("set", 3)})], options(("x", []), ("y", [("set", "b", 4)])))
        self.check(story, [({}, ["x"])], False)
        self.check(story, [({"a": (6, None)}, ["x"]), ({"a": (None, 4)}, ["x"])], False)
        self.check(story, [({"a": (6, None)}, ["x"]), ({"a": (None, 4)}, ["x"]), ({"a": (5, 5), "b": (3, 3)}, ["x"])],
                   False)

    def test_notes_at_which_a_set_leaves_the_same(self):
        story = skip_of([({}, {"b": ("set", 3)})], options(("x", []), ("y", [("set", "b", 3)])))
        self.check(story, [({}, ["y"])], True)
        self.check(story, [({}, ["y"]), ({"b": (3, 3)}, ["x"])], True)
        self.check(story, [({}, ["y"]), ({"b": (3, 4)}, ["x"])], False)

    def test_a_table_of_the_package_with_changes(self):
        for first in range(700, 760):
            story = Story(Maker(first, "ab", 2).scenes())
            looker = Looker(story.scenes())
            every = grid("ab", [-FAR, -4, -3, -2, -1, 0, 1, 2, 3, 4, FAR])
            for scene, steps, skip in story.scenes():
                try:
                    items = None if skip is None else table(story, scene)
                except TooMany:
                    continue
                for at in range(len(items or [])):
                    less = items[:at] + items[at + 1:]
                    if not all(any(Notes(notes) in item[0] for item in less) for notes in every):
                        self.assertFalse(is_table(story, scene, less))
                    wider = items[:at] + [(Pattern(), items[at][1])] + items[at + 1:]
                    good = all(self.leaves(looker, scene, notes, items[at][1], skip) for notes in every)
                    if not good:
                        self.assertFalse(is_table(story, scene, wider))

    def leaves(self, looker, scene, notes, answers, skip):
        left = {name: k for name, k in skipped(skip, notes)[1].items() if k}
        return any(list(play[0]) == answers and play[2] == "ended" and play[3] == left and play[5]
                   for play in looker.plays(scene, notes)[0])

    def test_a_long_table(self):
        rows = [({"a": (k, k)}, ["y" if k % 2 else "x"]) for k in range(58)] + [({"a": (None, -1)}, ["x"]),
                                                                                ({"a": (58, None)}, ["y"])]
        story = skip_of([], options(("x", []), ("y", [])))
        self.check(story, rows, True)
        self.check(story, rows[:30] + rows[31:], False)


class LooseTest(unittest.TestCase):

    def check(self, wanted, *steps):
        found = loose_notes(one_scene(*steps), "a")
        self.assertEqual(None if found is None else plain(found), wanted, steps)

    def test_exact(self):
        self.check(None)
        self.check(None, ("add", "n", 1))
        self.check(None, choice(4), choice(3))
        self.check(None, ("if", "n", 0, None, [("add", "n", 1)], [("set", "n", 5)]))
        self.check(None, options(("x", [("add", "n", 1), ("add", "n", 1)]), ("y", [("add", "n", 2)])))
        self.check(None, options(("x", [("set", "n", 2), ("add", "n", 1)]), ("y", [("set", "n", 3)])))
        self.check(None, ("choose", [("x", {"n": (0, None)}, [("add", "n", 1)]),
                                     ("y", {"n": (None, -1)}, [("set", "m", 5)])]))
        # At 0 both are offered, and leave the same.
        self.check(None, ("choose", [("x", {"n": (0, None)}, [("add", "n", 1)]),
                                     ("y", {"n": (None, 0)}, [("add", "n", 1)])]))
        self.check(None, ("choose", [("x", {"n": (0, None)}, [("set", "n", 0)]), ("y", {"n": (None, 0)}, [])]))

    def test_lost_or_stuck(self):
        self.check({"n": 4}, ("need", "n", None, 3))
        self.check({"n": -4}, ("need", "n", -3, None))
        self.check({"n": 4}, ("need", "n", -3, 3))
        self.check({"n": 2, "m": 3}, ("if", "n", 2, None, [("need", "m", None, 2)], []))
        self.check({"n": 7}, ("add", "n", -2), ("choose", [("x", {"n": (None, 4)}, [])]))
        self.check({}, ("set", "n", 1), ("need", "n", 0, 0))
        self.check({"n": 1}, options(("x", [("need", "n", None, 0)]), ("y", [])))
        self.check(None, ("if", "n", 2, None, [("need", "n", 1, None)], []))

    def test_options_that_leave_others(self):
        self.check({}, options(("x", [("add", "n", 1)]), ("y", [])))
        self.check({"n": 1}, options(("x", [("set", "n", 0)]), ("y", [])))
        self.check({}, options(("x", [("set", "n", 1)]), ("y", [])))
        self.check({"n": 3}, ("choose", [("x", {"n": (3, None)}, [("add", "n", 1)]), ("y", {}, [])]))
        self.check({"n": -4}, ("choose", [("x", {"n": (None, -4)}, [("set", "n", 0)]), ("y", {}, [])]))
        self.check({"n": -5}, ("choose", [("x", {"n": (None, -4)}, [("set", "n", -4)]), ("y", {}, [])]))

    def test_least_notes(self):
        self.check({"n": 1}, options(("x", [("set", "m", 0), ("set", "n", 0)]), ("y", [])))
        self.check({"m": 2, "n": 1}, ("choose", [("x", {"m": (2, None), "n": (1, None)},
                                                  [("set", "m", 2), ("set", "n", 0)]),
                                                 ("y", {}, [])]))
        self.check({"n": 1}, ("choose", [("x", {"n": (1, None)}, [("set", "m", 1), ("set", "n", 1)]), ("y", {}, [])]))
        self.check({"m": 1, "n": 1}, ("choose", [("x", {"n": (1, 1)}, [("set", "m", 0), ("set", "n", 1)]),
                                                 ("y", {}, [])]))
        self.check({"n": 1}, options(("x", [("need", "m", None, 2)]), ("y", [("set", "n", 0)])))

    def test_the_skips_do_not_count(self):
        story = Story([("a", [("scene", "b")], [({}, ADD)]), ("b", [("add", "n", 1)], [({}, {"n": ("set", 8)})])])
        self.assertIsNone(loose_notes(story, "a"))
        self.assertIsNone(loose_notes(story, "b"))

    def test_the_example(self):
        found = loose_notes(Story(EXAMPLE), "tea")
        self.assertEqual(found, Notes())
        found["met"] = 3
        self.assertEqual(loose_notes(Story(EXAMPLE), "tea"), Notes())

    def test_small_stories(self):
        exact, loose = 0, 0
        for first in range(800, 950):
            names = "abc"[:1 + first % 3]
            story = Story(Maker(first, names, 1 + first % 2).scenes())
            looker = Looker(story.scenes())
            every = grid(names, range(-6, 7))[::1 if len(names) < 3 else 13]
            for scene in story.names():
                try:
                    found = loose_notes(story, scene)
                except TooMany:
                    continue
                if found is None:
                    exact += 1
                    self.assertFalse(any(looker.loose(scene, notes) for notes in every))
                else:
                    loose += 1
                    self.assertTrue(looker.loose(scene, plain(found)))
                    self.assertFalse(any(looker.loose(scene, notes) for notes in every if comes_first(notes,
                                                                                                      plain(found))))
        self.assertGreater(exact, 50)
        self.assertGreater(loose, 50)

    def test_each_pair_of_ways(self):
        exact, loose = 0, 0
        for first in range(5000, 5150):
            story = Story(Maker(first, "abc"[:1 + first % 3], 3).scenes())
            for scene in story.names():
                try:
                    found = loose_notes(story, scene)
                except TooMany:
                    continue
                self.assertEqual(found, self.least_of_pairs(ways(story, scene)))
                exact, loose = exact + (found is None), loose + (found is not None)
        self.assertGreater(exact, 50)
        self.assertGreater(loose, 100)

    def least_of_pairs(self, found):
        least = [way.pattern.least() for way in found if way.end != "ended"]
        for one, other in itertools.combinations([way for way in found if way.end == "ended"], 2):
            try:
                both = one.pattern & other.pattern
            except NoCommon:
                continue
            same = self.where_the_same(one.change, other.change)
            notes = least_outside(both, [] if same is None else [same])
            least += [] if notes is None else [notes]
        return min(least, default=None)

    def where_the_same(self, one, other):
        """The pattern of the notes from which both changes leave the same, or None."""
        mine = {name: (kind, k) for name, kind, k in one.parts()}
        theirs = {name: (kind, k) for name, kind, k in other.parts()}
        limits = {}
        for name in {**mine, **theirs}:
            parts = dict([mine.get(name, ("add", 0)), theirs.get(name, ("add", 0))])
            if len(parts) == 2:
                limits[name] = (parts["set"] - parts["add"],) * 2
            elif mine.get(name) != theirs.get(name):
                return None
        return Pattern(limits)

    def test_nearly_three_hundred_runs(self):
        # Each pair of runs would be too many to look at.
        four, two = choice(4), choice(2)
        up = ("if", "a", 0, 3, [("add", "a", 1)], [("set", "b", 7)])
        down = ("if", "b", None, 1, [("add", "b", 1)], [("add", "a", 2)])
        last = ("choose", [("x", {}, []), ("y", {}, [("need", "a", None, 90)])])
        change = ("choose", [(word, {}, [("add", "n", at)]) for at, word in enumerate("wxyz")])
        mixed = ("choose", [("x", {}, [("set", "n", 0)]), ("y", {}, [])])
        for steps, wanted in [([("choose", [("x", {}, [four] * 4), ("y", {}, [two, four, four])])], None),
                              ([four, four, up, down, up, down], None), ([up, down, up, down, four, four], None),
                              ([four, four, up, down, last], {"a": 89}), ([up, down, up, last, four, two], {"a": 89}),
                              ([change] * 4, {}), ([up, four, change, four], {}),
                              ([mixed, four, four, four, two], {"n": 1}), ([four, up, down, mixed, four], {"n": 1})]:
            with mock.patch.object(exact, "differing", wraps=exact.differing) as looked:
                self.check(wanted, *steps)
            self.assertLess(looked.call_count, 100, steps)


class ErrorsTest(unittest.TestCase):

    def test_no_scene_of_this_name(self):
        many = skip_of([], *points(300))
        for story in [Story(EXAMPLE), many]:
            for name in ["", "nowhere", "met", "te"]:
                for call in [lambda: wrong_notes(story, name), lambda: table(story, name),
                             lambda: loose_notes(story, name),
                             lambda: is_table(story, name, []), lambda: is_table(story, name, [(Pattern(), ["x"])])]:
                    with self.assertRaises(InvalidScene):
                        call()

    def test_no_skip(self):
        for story, name in [(Story(EXAMPLE), "start"), (one_scene(*points(300)), "a")]:
            for call in [lambda: wrong_notes(story, name), lambda: table(story, name),
                         lambda: is_table(story, name, []),
                         lambda: is_table(story, name, [(Pattern(), ["x"])])]:
                with self.assertRaises(NoSkip):
                    call()
        self.assertEqual(loose_notes(Story(EXAMPLE), "start"), Notes())

    def test_too_many(self):
        for skip in [[], [({}, ADD)]]:
            story = skip_of(skip, *points(300))
            for call in [lambda: wrong_notes(story, "s"), lambda: table(story, "s"), lambda: is_table(story, "s", []),
                         lambda: is_table(story, "s", [(Pattern(), ["x"])]), lambda: loose_notes(story, "s")]:
                with self.assertRaises(TooMany):
                    call()
        with self.assertRaises(TooMany):
            loose_notes(one_scene(*points(300)), "a")

    def test_three_hundred(self):
        story = skip_of([], *points(299))
        self.assertIsNone(wrong_notes(story, "s"))
        self.assertTrue(is_table(story, "s", table(story, "s")))
        self.assertTrue(is_table(story, "s", [(Pattern(), [])]))
        self.assertIsNone(loose_notes(story, "s"))
        story = skip_of([({"a": (100, 100)}, ADD)], *points(299))
        self.assertEqual(wrong_notes(story, "s"), Notes({"a": 100}))

    def test_runs_of_watched_plays_count(self):
        story = Story([("s", points(200) + [("scene", "t"), ("scene", "t")], []), ("t", [], [])])
        self.assertIsNone(wrong_notes(story, "s"))
        self.assertTrue(is_table(story, "s", [(Pattern(), ["watch", "watch"])]))
        self.assertIsNone(loose_notes(story, "s"))


if __name__ == "__main__":
    unittest.main()
