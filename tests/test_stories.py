"""[8]: steps, scenes and stories; [2] for stories."""

import copy
import itertools
import unittest

from sceneskips.errors import InvalidBook, InvalidScene, InvalidStory, NoCommon
from sceneskips.notes import Change, Notes
from sceneskips.patterns import Pattern
from sceneskips.stories import Story

HUGE = 10 ** 60 + 7
LONG = "abcdefgh"
BAD_NAMES = ["", "abcdefghi", "A", "aB", "a1", "1", "a\n", "\na", "a b", "a_", "\u00e9", None, True, 1, ["a"], ("a",),
             {"a": 1}, b"a", Notes()]
BAD_INTEGERS = [None, True, False, "1", "", 1.0, [1], (1,), {}, Notes(), Change()]
BAD_LOWS = [value for value in BAD_INTEGERS if value is not None]

EXAMPLE = [
    ("start", [("scene", "tea"), ("if", "met", 1, None, [("show", "again")], [("show", "hello")])], None),
    ("tea", [("choose", [("sit", {}, [("add", "met", 1)]), ("go", {}, [])])], [({}, {"met": ("add", 1)})]),
]

ALL_KINDS = [
    ("start", [
        ("show", "a"),
        ("show", LONG),
        ("set", "a", -HUGE),
        ("set", "a", 0),
        ("add", "b", HUGE),
        ("add", "b", 0),
        ("need", "c", None, None),
        ("need", "c", -HUGE, HUGE),
        ("need", "c", 3, 3),
        ("if", "d", None, 2, [], []),
        ("if", "d", 2, None, [("show", "x"), ("scene", "last")], [("if", "d", 0, 0, [], [("show", "y")])]),
        ("choose", [("one", {}, [])]),
        ("choose", [("one", {"a": (0, None), "b": (None, -2)}, [("scene", "next")]),
                    ("two", {"c": (1, 1)}, [("choose", [("one", {}, [("set", "z", 1)])])]),
                    ("watch", {}, [])]),
        ("scene", "next"),
        ("scene", "last"),
        ("scene", "next"),
    ], None),
    ("next", [("scene", "last")], []),
    ("last", [], [({"a": (0, 1)}, {"a": ("set", 0), "b": ("add", -4)}), ({}, {}), ({"b": (None, 0)}, {})]),
]


def disturb(scenes):
    """Change lists and dicts of every kind within a copy of ALL_KINDS."""
    scenes[0][1][10][4].append(("show", "new"))
    scenes[0][1][10][5].clear()
    scenes[0][1][11][1].append(("new", {}, []))
    scenes[0][1][12][1][0][1]["a"] = (5, 6)
    scenes[0][1][12][1][1][2][0][1][0][2].clear()
    scenes[0][1].append(("show", "new"))
    scenes[2][2][0][0].clear()
    scenes[2][2][0][1]["c"] = ("set", 3)
    scenes[2][2].append(({}, {}))
    scenes.pop()


def refused(value):
    """The index with which the value is refused, or "taken"."""
    try:
        Story(value)
    except InvalidStory as error:
        return error.index
    return "taken"


def nested(kind, depth):
    """A value that is nested so deep."""
    value = 1
    for _ in range(depth):
        value = [value] if kind is list else (value,) if kind is tuple else {"a": value}
    return value


def deep_if(depth, inner):
    """A list with a step of depth 1, in which the steps inner stand at this depth."""
    steps = inner
    for at in range(depth - 1):
        steps = [("if", "a", 0, 1, steps, [])] if at % 2 else [("if", "a", 0, 1, [], steps)]
    return steps


def deep_choose(depth, inner):
    steps = inner
    for at in range(depth - 1):
        steps = [("choose", [("x", {}, []), ("y", {}, steps)])]
    return steps


def deep_both(depth, inner):
    steps = inner
    for at in range(depth - 1):
        steps = [("choose", [("y", {}, steps)])] if at % 2 else [("show", "a"), ("if", "a", 0, 1, steps, [])]
    return steps


NESTED = [nested(kind, depth) for kind in (list, tuple, dict) for depth in (1, 2, 3, 100)]
OBJECTS = [Notes(), Notes({"a": 1}), Change(), Pattern(), Story(EXAMPLE), NoCommon("x"), InvalidBook(1, True)]


class StoryTest(unittest.TestCase):

    def test_scenes_and_names(self):
        for scenes in [EXAMPLE, ALL_KINDS, [("a", [], None)]]:
            story = Story(scenes)
            self.assertEqual(story.scenes(), scenes)
            self.assertEqual(story.names(), [name for name, steps, skip in scenes])
            self.assertIs(type(story.scenes()), list)
            self.assertEqual([type(scene) for scene in story.scenes()], [tuple] * len(scenes))
            self.assertIs(type(story.names()), list)

    def test_skips(self):
        for skip in [None, [], [({}, {})], ALL_KINDS[2][2]]:
            self.assertEqual(Story([("a", [], skip)]).scenes(), [("a", [], skip)])

    def test_what_is_not_kept(self):
        none = {"a": (None, None), "b": (0, None), "c": (None, None), "d": (None, 0)}
        kept = {"b": (0, None), "d": (None, 0)}
        parts = {"a": ("add", 0), "b": ("set", 0), "c": ("add", 1)}
        story = Story([("a", [("choose", [("x", none, [("choose", [("y", none, [])])])]),
                              ("if", "a", None, None, [("choose", [("y", none, [])])], [("add", "a", 0)]),
                              ("need", "a", None, None)],
                        [(none, parts), ({"a": (None, None)}, {"a": ("add", 0)})])])
        self.assertEqual(story.scenes(), [
            ("a", [("choose", [("x", kept, [("choose", [("y", kept, [])])])]),
                   ("if", "a", None, None, [("choose", [("y", kept, [])])], [("add", "a", 0)]),
                   ("need", "a", None, None)],
             [(kept, {"b": ("set", 0), "c": ("add", 1)}), ({}, {})])])

    def test_equality(self):
        self.assertTrue(Story(EXAMPLE) == Story(copy.deepcopy(EXAMPLE)))
        self.assertFalse(Story(EXAMPLE) != Story(copy.deepcopy(EXAMPLE)))
        self.assertTrue(Story(ALL_KINDS) == Story(copy.deepcopy(ALL_KINDS)))
        self.assertFalse(Story(EXAMPLE) == Story(ALL_KINDS))
        self.assertFalse(Story(EXAMPLE) == Story(EXAMPLE[1:]))
        self.assertTrue(Story([("a", [("choose", [("x", {"a": (None, None)}, [])])], [({}, {"a": ("add", 0)})])])
                        == Story([("a", [("choose", [("x", {}, [])])], [({"b": (None, None)}, {})])]))

    def test_what_makes_stories_differ(self):
        first = Story([("a", [("show", "x"), ("add", "m", 1)], [({"m": (0, None)}, {"m": ("add", 1)})])])
        for scene in [("b", [("show", "x"), ("add", "m", 1)], [({"m": (0, None)}, {"m": ("add", 1)})]),
                      ("a", [("show", "y"), ("add", "m", 1)], [({"m": (0, None)}, {"m": ("add", 1)})]),
                      ("a", [("add", "m", 1), ("show", "x")], [({"m": (0, None)}, {"m": ("add", 1)})]),
                      ("a", [("show", "x"), ("set", "m", 1)], [({"m": (0, None)}, {"m": ("add", 1)})]),
                      ("a", [("show", "x"), ("add", "m", 1)], [({"m": (1, None)}, {"m": ("add", 1)})]),
                      ("a", [("show", "x"), ("add", "m", 1)], [({"m": (0, None)}, {"m": ("set", 1)})]),
                      ("a", [("show", "x"), ("add", "m", 1)], [({"m": (0, None)}, {})]),
                      ("a", [("show", "x"), ("add", "m", 1)], []),
                      ("a", [("show", "x"), ("add", "m", 1)], None)]:
            self.assertFalse(first == Story([scene]))
            self.assertTrue(first != Story([scene]))
        self.assertFalse(Story([("a", [], None)]) == Story([("a", [], [])]))
        self.assertFalse(Story([("a", [], [])]) == Story([("a", [], [({}, {})])]))

    def test_equality_with_other_kinds(self):
        for other in [None, 0, "", [], EXAMPLE, tuple(EXAMPLE), {}, Notes(), Change(), Pattern()]:
            self.assertFalse(Story(EXAMPLE) == other)
            self.assertFalse(other == Story(EXAMPLE))

    def test_dicts_in_another_order(self):
        limits = {"a": (0, 1), "b": (2, None), "c": (None, 3)}
        parts = {"a": ("add", 1), "b": ("set", 0), "c": ("add", -1)}
        first = None
        for order in itertools.permutations("abc"):
            row = ({name: limits[name] for name in order}, {name: parts[name] for name in order})
            story = Story([("s", [("choose", [("x", row[0], [])])], [row])])
            first = first or story
            self.assertTrue(story == first)
            self.assertEqual(repr(story.scenes()), repr(first.scenes()))

    def test_what_was_passed_may_change(self):
        scenes = copy.deepcopy(ALL_KINDS)
        story = Story(scenes)
        self.assertEqual(scenes, ALL_KINDS)
        disturb(scenes)
        self.assertEqual(story.scenes(), ALL_KINDS)
        self.assertEqual(story, Story(ALL_KINDS))

    def test_what_was_returned_may_change(self):
        story = Story(ALL_KINDS)
        scenes = story.scenes()
        disturb(scenes)
        story.names().clear()
        self.assertEqual(story.scenes(), ALL_KINDS)
        self.assertEqual(story.names(), ["start", "next", "last"])
        self.assertEqual(story, Story(ALL_KINDS))

    def test_many_steps(self):
        scenes = [(name, [("show", "x")] * 400 + [("scene", later) for later in "bcdefghij"[at:]], [({}, {})] * 20)
                  for at, name in enumerate("abcdefghij")]
        self.assertEqual(Story(scenes).scenes(), scenes)


class DepthTest(unittest.TestCase):

    def test_depths(self):
        for form in [deep_if, deep_choose, deep_both]:
            for inner in [[("show", "x")], [("scene", "b")], [("if", "a", 0, 0, [], [])],
                          [("choose", [("x", {}, []), ("y", {}, [])])]]:
                for depth in range(1, 9):
                    scenes = [("a", form(depth, inner), None), ("b", [], None)]
                    self.assertEqual(refused(scenes), "taken" if depth <= 5 else 0, (form, inner, depth))
                    scenes = [("a", [], None), ("c", form(depth, inner), []), ("b", [], None)]
                    self.assertEqual(refused(scenes), "taken" if depth <= 5 else 1)

    def test_deep_steps_are_kept(self):
        for form in [deep_if, deep_choose, deep_both]:
            scenes = [("a", form(5, [("show", "x"), ("choose", [("y", {"a": (0, 0)}, [])])]), None)]
            self.assertEqual(Story(scenes).scenes(), scenes)

    def test_each_place_counts(self):
        deep = deep_if(5, [("show", "x")])
        for step in [("if", "a", 0, 1, deep, []), ("if", "a", 0, 1, [], deep), ("choose", [("x", {}, deep)]),
                     ("choose", [("x", {}, []), ("y", {}, deep)])]:
            self.assertEqual(refused([("a", [("show", "x"), step], None)]), 0)

    def test_scene_steps_add_no_depth(self):
        scenes = [("a", deep_if(5, [("scene", "b")]), None), ("b", deep_if(5, [("scene", "c")]), None),
                  ("c", deep_if(5, [("show", "x")]), None)]
        self.assertEqual(refused(scenes), "taken")

    def test_very_deep(self):
        for form in [deep_if, deep_choose, deep_both]:
            for depth in [20, 33, 50]:
                self.assertEqual(refused([("a", form(depth, [("show", "x")]), None)]), 0)
                self.assertEqual(refused([("a", form(depth, []), None)]), 0)

    def test_steps_that_hold_themselves(self):
        steps = []
        steps.append(("if", "a", 0, 1, steps, []))
        self.assertEqual(refused([("a", steps, None)]), 0)


class RefusedTest(unittest.TestCase):

    def check_step(self, step, names=("later",)):
        """That a story is refused because of this step, in each place where it can stand."""
        rest = [(name, [], None) for name in names]
        for steps in [[step], [("show", "x"), step, ("show", "y")], deep_if(3, [step]), deep_choose(5, [step]),
                      [("if", "a", 0, 1, [step], [])], [("if", "a", 0, 1, [], [step])],
                      [("choose", [("x", {}, []), ("y", {}, [("show", "x"), step])])]]:
            self.assertEqual(refused([("a", steps, None)] + rest), 0, steps)
            self.assertEqual(refused([("b", [], None), ("a", steps, [])] + rest), 1, steps)

    def check_entries(self, good):
        """That entries too few and too many, and lists and dicts instead of the tuple, are refused."""
        for at in range(len(good)):
            self.check_step(good[:at])
        for more in [None, 0, "x", []]:
            self.check_step(good + (more,))
        self.check_step(list(good))
        self.check_step({entry: entry for entry in good if isinstance(entry, str)})
        self.check_step((good,))

    def test_no_list(self):
        for value in [None, True, False, 0, 1, "", "scenes", b"a", (), tuple(EXAMPLE), {}, {"a": []}, 1.5,
                      {0: EXAMPLE[0]}, iter(EXAMPLE), object()] + OBJECTS + [v for v in NESTED if type(v) is not list]:
            self.assertIs(refused(value), None, value)

    def test_empty_list(self):
        self.assertIs(refused([]), None)

    def test_items_that_are_no_scenes(self):
        good = ("a", [], None)
        for item in [None, True, 0, "a", "abc", [], ["a", [], None], (), ("a",), ("a", []), ("a", [], None, None), {},
                     {"a": 1, "b": 2, "c": 3}, (good,), [good]] + OBJECTS + NESTED:
            self.assertEqual(refused([item]), 0, item)
            self.assertEqual(refused([item, good]), 0)
            self.assertEqual(refused([good, item]), 1)
            self.assertEqual(refused([good, ("b", [], []), item, item]), 2)

    def test_names_of_scenes(self):
        for name in BAD_NAMES + NESTED + OBJECTS:
            self.assertEqual(refused([(name, [], None)]), 0, name)
            self.assertEqual(refused([("a", [], None), (name, [], None)]), 1, name)

    def test_steps_that_are_no_list(self):
        for steps in [None, True, 0, "", "show", (), (("show", "x"),), {}, ("show", "x")] + NESTED + OBJECTS:
            self.assertEqual(refused([("a", steps, None)]), 0, steps)
            self.check_step(("if", "a", 0, 1, steps, []))
            self.check_step(("if", "a", 0, 1, [], steps))
            self.check_step(("choose", [("x", {}, steps)]))

    def test_steps_of_no_kind(self):
        for step in [None, True, 0, "", "show", "show x", [], (), {}, ("show",), (("show", "x"),), ["show", "x"],
                     (None, "x"), (1, "x"), (True, "x"), (["show"], "x"), (("show",), "x"), ({}, "x"), ("Show", "x"),
                     ("play", "x"), ("shows", "x"), ("", "x"), ("show\n", "x"), ("sub", "a", 1),
                     ("row", {}, {}), ("skip", None), (b"show", "x")] + NESTED + OBJECTS:
            self.check_step(step)
            self.check_step((step,))
            if step != "show":
                self.check_step((step, "x"))

    def test_show(self):
        self.check_entries(("show", "x"))
        for word in BAD_NAMES + NESTED + OBJECTS:
            self.check_step(("show", word))

    def test_set_and_add(self):
        for kind in ["set", "add"]:
            self.check_entries((kind, "a", 1))
            for name in BAD_NAMES:
                self.check_step((kind, name, 1))
            for k in BAD_INTEGERS + NESTED + OBJECTS:
                self.check_step((kind, "a", k))
            self.check_step((kind, 1, "a"))

    def test_need_and_if(self):
        for kind, rest in [("need", ()), ("if", ([], []))]:
            self.check_entries((kind, "a", 0, 1) + rest)
            for name in BAD_NAMES:
                self.check_step((kind, name, 0, 1) + rest)
            for k in BAD_LOWS + NESTED:
                self.check_step((kind, "a", k, 2) + rest)
                self.check_step((kind, "a", 0, k) + rest)
                self.check_step((kind, "a", k, None) + rest)
                self.check_step((kind, "a", None, k) + rest)
            for low, high in [(1, 0), (0, -1), (HUGE, HUGE - 1), (HUGE, -HUGE)]:
                self.check_step((kind, "a", low, high) + rest)

    def test_choose(self):
        self.check_entries(("choose", [("x", {}, [])]))
        for options in [[], (), (("x", {}, []),), {}, {"x": []}, None, True, 0, "x", ("x", {}, []),
                        [("x", {}, []), ("x", {}, [])], [("x", {}, []), ("y", {}, []), ("x", {"a": (0, 1)}, [])],
                        ] + NESTED + OBJECTS:
            self.check_step(("choose", options))

    def test_options(self):
        for option in [None, "x", [], ["x", {}, []], (), ("x",), ("x", {}), ("x", {}, [], None), ("x", [], {}),
                       ({}, "x", []), {"x": 1, "y": 2, "z": 3}, ("x", {}, [], [])] + NESTED + OBJECTS:
            self.check_step(("choose", [option]))
            self.check_step(("choose", [("z", {}, []), option]))
        for word in BAD_NAMES + NESTED:
            self.check_step(("choose", [(word, {}, [])]))
            self.check_step(("choose", [("z", {}, []), (word, {}, [])]))

    def bad_limits(self):
        rows = [None, True, 0, "", "a", [], (), [("a", 0, 1)], ("a", (0, 1)), ("a", 0, 1)] + OBJECTS
        rows += [value for value in NESTED]
        rows += [{name: (0, 1)} for name in BAD_NAMES if not isinstance(name, (list, dict, Notes))]
        rows += [{"a": (low, 1)} for low in BAD_LOWS] + [{"a": (0, high)} for high in BAD_LOWS]
        rows += [{"a": (low, None)} for low in BAD_LOWS] + [{"a": (None, high)} for high in BAD_LOWS]
        rows += [{"a": item} for item in [None, 0, "01", [0, 1], (), (0,), (0, 1, 2), {}, {0: 1, 1: 2}, (1, 0),
                                          (HUGE, -HUGE), ((0, 1),), [None, None]] + OBJECTS]
        rows += [{"a": (0, 1), "b": (0, 1), "c": (1, 0)}, {"a": (0, 1), "B": (None, None)}]
        return rows

    def test_limits_of_options(self):
        for limits in self.bad_limits():
            self.check_step(("choose", [("x", limits, [])]))
            self.check_step(("choose", [("z", {}, []), ("x", limits, [])]))

    def check_skip(self, skip):
        self.assertEqual(refused([("a", [], skip)]), 0, skip)
        self.assertEqual(refused([("b", [], None), ("a", [("show", "x")], skip), ("c", [], None)]), 1)
        with self.assertRaises(InvalidStory) as caught:
            Story(EXAMPLE).with_skip("start", skip)
        self.assertEqual(caught.exception.index, 0)
        with self.assertRaises(InvalidStory) as caught:
            Story(ALL_KINDS).with_skip("last", skip)
        self.assertEqual(caught.exception.index, 2)

    def test_skips(self):
        for skip in [True, False, 0, "", "none", (), (({}, {}),), {}, ({}, {}), {"a": 1}, [None], [0], ["ab"], [[]],
                     [[{}, {}]], [()], [({},)], [({}, {}, {})], [{}], [{"a": 1, "b": 2}], [({}, {}), None],
                     [({}, {}), [{}, {}]], [[({}, {})]]] + NESTED + OBJECTS:
            self.check_skip(skip)

    def test_limits_of_rows(self):
        for limits in self.bad_limits():
            self.check_skip([(limits, {})])
            self.check_skip([({}, {}), (limits, {"a": ("add", 1)})])

    def test_parts_of_rows(self):
        rows = [None, True, 0, "", [], (), [("a", "add", 1)], ("a", ("add", 1))] + NESTED + OBJECTS
        rows += [{name: ("add", 1)} for name in BAD_NAMES if not isinstance(name, (list, dict, Notes))]
        rows += [{"a": (kind, k)} for kind in ["add", "set"] for k in BAD_INTEGERS + NESTED]
        rows += [{"a": part} for part in [None, 0, 1, "add", ["add", 1], (), ("add",), ("add", 1, 1), ("Add", 1),
                                          ("sub", 1), ("", 1), (None, 1), (1, "add"), (True, 1), (["add"], 1),
                                          ("show", 1), {"add": 1, "set": 2}, (("add", 1),), (Notes(), 1)] + OBJECTS]
        rows += [{"a": ("add", 1), "b": ("set", 0), "c": ("set", None)}, {"a": ("add", 1), "B": ("add", 0)}]
        for parts in rows:
            self.check_skip([({}, parts)])
            self.check_skip([({}, {}), ({"a": (0, 1)}, parts)])

    def test_scene_steps(self):
        self.check_entries(("scene", "later"))
        for name in BAD_NAMES + NESTED + OBJECTS:
            self.check_step(("scene", name))
        for name in ["nowhere", "a", "b", "lat", "laters"]:
            self.check_step(("scene", name))
        for steps in [[("scene", "later")], deep_both(5, [("scene", "later")])]:
            self.assertEqual(refused([("a", steps, None), ("later", [], None)]), "taken")
            self.assertEqual(refused([("later", [], None), ("a", steps, None)]), 1)
            self.assertEqual(refused([("later", steps, None)]), 0)

    def test_the_same_name_twice(self):
        first, same, other = ("a", [], None), ("a", [("show", "x")], []), ("b", [], None)
        self.assertEqual(refused([first, first]), 1)
        self.assertEqual(refused([first, same]), 1)
        self.assertEqual(refused([first, other, same]), 2)
        self.assertEqual(refused([other, first, same, other]), 2)
        # The name of the scene itself stands later again: the second one is wrong.
        self.assertEqual(refused([("a", [("scene", "a")], None), first]), 1)

    def test_the_first_wrong_item_counts(self):
        wrong = [("a", [("show", 1)], None), ("b", [], 5), 3, ("b", [], None), ("c", [("scene", "z")], None)]
        for order in itertools.permutations(wrong):
            self.assertEqual(refused([("b", [], None)] + list(order)), 1)
            self.assertEqual(refused([("b", [], None), ("x", [("scene", "y")], None), ("y", [], None)] + list(order)), 3)

    def test_names_of_later_items_that_are_no_scenes(self):
        play = ("a", [("scene", "b")], None)
        for item in [("b", 5, None), ("b", [("show", 1)], None), ("b", [], 5), ("b", None, None)]:
            self.assertEqual(refused([play, item]), 1, item)
            self.assertEqual(refused([play, ("c", [], None), item]), 2)
        for item in [("b", []), ("b", [], None, None), ["b", [], None], "b", ("b",), {"b": 1}, None, (("b", 0, 0),)]:
            self.assertEqual(refused([play, item]), 0, item)
            self.assertEqual(refused([play, ("c", [], None), item]), 0)

    def test_nothing_is_changed(self):
        for scenes in [[("a", [("show", "x"), ("show", 1)], [])], [("a", [("choose", [("x", {"a": (1, 0)}, [])])], [])],
                       [("a", [], [({"a": (None, None)}, {"a": ("add", 0)}), 5])]]:
            before = copy.deepcopy(scenes)
            self.assertEqual(refused(scenes), 0)
            self.assertEqual(scenes, before)


class WithSkipTest(unittest.TestCase):

    def test_with_skip(self):
        story = Story(EXAMPLE)
        for skip in [None, [], [({}, {})], [({"met": (0, 2)}, {"met": ("set", 0)}), ({}, {"a": ("add", 2)})]]:
            for at, name in enumerate(["start", "tea"]):
                other = story.with_skip(name, skip)
                self.assertIsInstance(other, Story)
                scenes = list(EXAMPLE)
                scenes[at] = (name, EXAMPLE[at][1], skip)
                self.assertEqual(other.scenes(), scenes)
                self.assertEqual(other.names(), ["start", "tea"])
                self.assertEqual(story.scenes(), EXAMPLE)
        self.assertTrue(story.with_skip("start", None) == story)

    def test_in_the_form_that_a_story_keeps(self):
        skip = [({"a": (None, None), "b": (0, 1)}, {"c": ("add", 0), "d": ("set", 0)})]
        story = Story(EXAMPLE).with_skip("tea", skip)
        self.assertEqual(story.scenes()[1][2], [({"b": (0, 1)}, {"d": ("set", 0)})])
        self.assertEqual(skip, [({"a": (None, None), "b": (0, 1)}, {"c": ("add", 0), "d": ("set", 0)})])

    def test_copies(self):
        story = Story(EXAMPLE)
        skip = [({"b": (0, 1)}, {"d": ("set", 0)})]
        other = story.with_skip("tea", skip)
        skip[0][0].clear()
        skip[0][1]["d"] = ("add", 5)
        skip.append(({}, {}))
        self.assertEqual(other.scenes()[1][2], [({"b": (0, 1)}, {"d": ("set", 0)})])
        other.scenes()[1][2].clear()
        other.scenes()[0][1].clear()
        self.assertEqual(other.scenes()[1][2], [({"b": (0, 1)}, {"d": ("set", 0)})])
        self.assertEqual(story, Story(EXAMPLE))

    def test_no_scene_of_this_name(self):
        story = Story(EXAMPLE)
        for name in ["", "te", "teas", "nowhere", "met", "sit"]:
            for skip in [None, [], [({}, {})], 5, "x", [5], ({}, {})] + NESTED + OBJECTS:
                with self.assertRaises(InvalidScene):
                    story.with_skip(name, skip)
        self.assertEqual(story, Story(EXAMPLE))

    def test_a_refused_skip_changes_nothing(self):
        story = Story(ALL_KINDS)
        skip = [({"a": (None, None)}, {"a": ("add", True)})]
        with self.assertRaises(InvalidStory) as caught:
            story.with_skip("next", skip)
        self.assertEqual(caught.exception.index, 1)
        self.assertEqual(story, Story(ALL_KINDS))
        self.assertEqual(skip, [({"a": (None, None)}, {"a": ("add", True)})])


if __name__ == "__main__":
    unittest.main()
