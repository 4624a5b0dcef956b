"""[14] and [15]: wrong plays, bad plays and twins; [2] and [4] for them, [5] (c) and (d)."""

import copy
import itertools
import unittest

from sceneskips.checks import wrong_notes
from sceneskips.errors import InvalidBook, TooMany, WrongSkip
from sceneskips.notes import Notes
from sceneskips.patterns import Pattern
from sceneskips.plays import resumed
from sceneskips.stories import Story
from sceneskips.whole import bad_play, twin, wrong_play

from tests.brute import Looker, Maker, is_ahead, plain, told
from tests.test_checks import options, skip_of
from tests.test_notes import grid
from tests.test_plays import LONG, many_questions, one_scene
from tests.test_stories import EXAMPLE
from tests.test_ways import FAR, choice, points

RIGHT = ("tea", [options(("sit", [("add", "met", 1)]), ("go", []))], [({}, {"met": ("add", 1)})])
# Wrong from 3 on.
WRONG = ("bad", [("add", "n", 1), ("if", "n", 4, None, [("add", "n", 1)], [])], [({}, {"n": ("add", 1)})])


def start(**limits):
    return Pattern(limits)


class WrongPlayTest(unittest.TestCase):

    def check(self, scenes, pattern, wanted):
        story = Story(scenes)
        self.assertEqual(told(wrong_play(story, pattern)), wanted)
        self.assertEqual(story, Story(scenes))

    def test_none(self):
        self.check(EXAMPLE, Pattern(), None)
        self.check([("a", [], None)], Pattern(), None)
        self.check([("a", [("scene", "tea")] * 3, None), RIGHT], start(met=(5, 9)), None)

    def test_at_the_beginning(self):
        self.check([("a", [("scene", "bad")], None), WRONG], Pattern(), ({"n": 3}, []))
        self.check([("a", [("add", "n", 2), ("show", "x"), ("scene", "bad")], None), WRONG], Pattern(), ({"n": 1}, []))
        self.check([("a", [("add", "n", 9), ("scene", "bad")], None), WRONG], Pattern(), ({}, []))
        self.check([("a", [("set", "n", 2), ("scene", "bad")], None), WRONG], Pattern(), None)
        self.check([("a", [("set", "n", 3), ("scene", "bad")], None), WRONG], Pattern(), ({}, []))

    def test_behind_answers(self):
        up = options(("up", [("add", "n", 3)]), ("on", []))
        scenes = [("a", [up, ("need", "n", None, 2), ("scene", "bad")], None), WRONG]
        self.check(scenes, Pattern(), None)
        scenes = [("a", [up, ("scene", "bad")], None), WRONG]
        self.check(scenes, Pattern(), ({}, ["up"]))
        self.check(scenes, start(n=(None, -1)), None)
        self.check(scenes, start(n=(1, None)), ({"n": 1}, ["up"]))
        self.check(scenes, start(n=(3, None)), ({"n": 3}, ["on"]))
        self.check([("a", [up, up, ("scene", "bad")], None), WRONG], start(n=(0, 0)), ({}, ["on", "up"]))
        self.check([("a", [up, up, ("scene", "bad")], None), WRONG], start(n=(-3, -3)), ({"n": -3}, ["up", "up"]))

    def test_the_fewest_answers_come_first(self):
        scenes = [("a", [("scene", "tea"), ("if", "n", 50, None, [("scene", "bad")], [choice(2), ("set", "n", 3),
                                                                                   ("scene", "bad")])], None), RIGHT,
                  WRONG]
        self.check(scenes, Pattern(), ({"n": 50}, ["skip"]))
        self.check(scenes, start(n=(None, 49)), ({}, ["skip", "w"]))

    def test_then_the_least_notes(self):
        scenes = [("a", [options(("b", [("add", "n", -1)]), ("c", [("add", "n", 1)])), ("scene", "bad")], None), WRONG]
        self.check(scenes, Pattern(), ({"n": 2}, ["c"]))
        self.check(scenes, start(n=(4, None)), ({"n": 4}, ["b"]))

    def test_then_the_answers(self):
        scenes = [("a", [options(("d", []), ("b", [("add", "n", 0)]), ("c", [])), ("scene", "bad")], None), WRONG]
        self.check(scenes, Pattern(), ({"n": 3}, ["b"]))
        scenes = [("a", [("scene", "tea"), ("scene", "bad")], None), ("tea", [], []), WRONG]
        self.check(scenes, Pattern(), ({"n": 3}, ["skip"]))

    def test_behind_wrong_skips(self):
        # At the first question the skip is right for this start, behind it once more it is not.
        scenes = [("a", [("scene", "bad"), ("scene", "bad")], None), WRONG]
        self.check(scenes, start(n=(2, 2)), ({"n": 2}, ["skip"]))
        self.check(scenes, start(n=(None, 1)), None)
        self.check(scenes, start(n=(7, 9)), ({"n": 7}, []))

    def test_only_some_plays_come_there(self):
        scenes = [("a", [("need", "n", 5, None), ("if", "m", 2, None, [("scene", "bad")], [])], None), WRONG]
        self.check(scenes, Pattern(), ({"m": 2, "n": 5}, []))
        self.check(scenes, start(m=(None, 1)), None)
        self.check(scenes, start(n=(None, 4)), None)

    def test_a_wrong_skip_that_no_play_reaches(self):
        scenes = [("a", [("set", "m", 0), ("if", "m", 1, None, [("scene", "bad")], [])], None), WRONG]
        self.check(scenes, Pattern(), None)
        self.check([("a", [], None), WRONG], Pattern(), None)
        self.check([("a", [("need", "q", 1, 1), ("scene", "bad")], None), WRONG], start(q=(2, None)), None)

    def test_the_skip_of_the_first_scene_is_never_asked(self):
        self.check([("a", [("add", "n", 1)], [])], Pattern(), None)

    def test_starts(self):
        scenes = [("a", [("scene", "bad")], None), WRONG]
        self.check(scenes, start(n=(5, 8)), ({"n": 5}, []))
        self.check(scenes, start(n=(None, 3)), ({"n": 3}, []))
        self.check(scenes, start(n=(None, 2)), None)
        self.check(scenes, start(n=(4, 4), q=(2, 5), r=(None, -7)), ({"n": 4, "q": 2, "r": -7}, []))
        self.check(scenes, start(q=(-FAR, -FAR)), ({"n": 3, "q": -FAR}, []))
        names = "abcdefgh"
        self.check(scenes, Pattern({name: (1, 2) for name in names}), ({"n": 3, **{name: 1 for name in names}}, []))

    def test_skips_within_scenes(self):
        scenes = [("a", [("scene", "b")], None), ("b", [("add", "n", 1), ("scene", "bad")], []), WRONG]
        # The skip of b is wrong at once.
        self.check(scenes, Pattern(), ({}, []))
        scenes[1] = ("b", [("add", "n", 1), ("scene", "bad")], [({"n": (2, None)}, {"n": ("add", 3)}),
                                                                ({}, {"n": ("add", 2)})])
        self.check(scenes, Pattern(), ({"n": 2}, ["watch"]))

    def test_what_plays_with_skips_leave_does_not_make_a_skip_right(self):
        scenes = [("a", [("scene", "b")], None), ("b", [("scene", "c")], [({}, {"n": ("add", 7)})]),
                  ("c", [("add", "n", 1)], [({}, {"n": ("add", 7)})])]
        self.check(scenes, Pattern(), ({}, []))
        with self.assertRaises(WrongSkip):
            twin(Story(scenes), Notes(), ["skip"])
        scenes[1] = ("b", [("scene", "c")], [({}, {"n": ("add", 1)})])
        self.check(scenes, Pattern(), ({}, ["watch"]))

    def test_results_are_new_objects(self):
        story = Story([("a", [choice(1), ("scene", "bad")], None), WRONG])
        found = wrong_play(story, Pattern())
        self.assertEqual([type(value) for value in (found,) + found], [tuple, Notes, list])
        found[0]["n"] = 8
        found[1].clear()
        self.assertEqual(told(wrong_play(story, Pattern())), ({"n": 3}, ["w"]))


class BadPlayTest(unittest.TestCase):

    def check(self, scenes, pattern, wanted):
        story = Story(scenes)
        self.assertEqual(told(bad_play(story, pattern)), wanted)
        self.assertEqual(story, Story(scenes))

    def test_none(self):
        self.check(EXAMPLE, Pattern(), None)
        self.check([("a", [], None)], start(n=(1, 1)), None)
        self.check([("a", [("set", "n", 1), ("need", "n", 1, None)], None)], Pattern(), None)
        self.check([("a", [], None), ("b", [("need", "n", 1, None)], None)], Pattern(), None)

    def test_lost(self):
        scenes = [("a", [("show", "x"), ("add", "n", 2), ("need", "n", None, 5), ("need", "m", 0, None)], None)]
        self.check(scenes, Pattern(), ({"m": -1}, []))
        self.check(scenes, start(m=(0, None)), ({"n": 4}, []))
        self.check(scenes, start(m=(0, None), n=(None, 3)), None)

    def test_stuck(self):
        scenes = [("a", [("choose", [("x", {"n": (None, 2)}, []), ("y", {"n": (5, None)}, []),
                                     ("z", {"m": (1, None)}, [])])],
                   None)]
        self.check(scenes, Pattern(), ({"n": 3}, []))
        self.check(scenes, start(n=(4, 9), q=(1, 2)), ({"n": 4, "q": 1}, []))
        self.check(scenes, start(m=(1, None)), None)

    def test_the_fewest_answers_come_first(self):
        scenes = [("a", [("need", "n", None, 90), choice(2), ("need", "n", None, 3), choice(1), ("need", "n", 0, None)],
                   None)]
        self.check(scenes, Pattern(), ({"n": 91}, []))
        self.check(scenes, start(n=(None, 90)), ({"n": 4}, ["w"]))
        self.check(scenes, start(n=(None, 3)), ({"n": -1}, ["w", "w"]))
        self.check(scenes, start(n=(0, 3)), None)

    def test_then_the_least_notes_then_the_answers(self):
        steps = [options(("d", [("need", "n", None, 2)]), ("b", [("need", "n", None, 5)]),
                         ("c", [("need", "n", None, 2)]))]
        self.check([("a", steps, None)], Pattern(), ({"n": 3}, ["c"]))
        self.check([("a", steps, None)], start(n=(7, None)), ({"n": 7}, ["b"]))

    def test_with_and_without_skips(self):
        lost = ("b", [("need", "n", 0, None), ("add", "n", 1)], [({"n": (None, -1)}, {}), ({}, {"n": ("add", 1)})])
        self.check([("a", [("scene", "b")], None), lost], Pattern(), ({"n": -1}, ["watch"]))
        self.check([("a", [("scene", "b")], None), lost], start(n=(0, None)), None)
        # Only who skips is lost behind it.
        scenes = [("a", [("scene", "b"), ("need", "m", None, 0)], None), ("b", [], [({}, {"m": ("set", 1)})])]
        self.check(scenes, start(m=(None, 0)), ({}, ["skip"]))
        scenes = [("a", [("scene", "b"), ("need", "m", 1, 1)], None), ("b", [], [({"n": (2, 3)}, {"m": ("set", 1)})])]
        self.check(scenes, start(m=(1, 1)), None)
        self.check(scenes, start(m=(0, 0), n=(2, 3)), ({"n": 2}, ["watch"]))
        self.check(scenes, start(m=(0, 0)), ({}, ["skip"]))

    def test_starts(self):
        scenes = [("a", [("need", "n", -4, 4)], None)]
        self.check(scenes, start(n=(-9, 4)), ({"n": -5}, []))
        self.check(scenes, start(n=(FAR, None)), ({"n": FAR}, []))
        self.check(scenes, start(n=(-4, 4), m=(3, None)), None)
        self.check(scenes, Pattern({name: (1, 1) for name in "abcdefgh"}),
                   ({"n": 5, **{name: 1 for name in "abcdefgh"}}, []))

    def test_results_are_new_objects(self):
        story = one_scene(choice(1), ("need", "n", 1, None))
        found = bad_play(story, Pattern())
        self.assertEqual([type(value) for value in (found,) + found], [tuple, Notes, list])
        found[0]["n"] = 8
        found[1].clear()
        self.assertEqual(told(bad_play(story, Pattern())), ({}, ["w"]))


class TooManyTest(unittest.TestCase):

    def check(self, scenes, error):
        story = Story(scenes)
        for call, pattern in itertools.product([wrong_play, bad_play], [Pattern(), start(a=(5, 5))]):
            if error:
                with self.assertRaises(TooMany):
                    call(story, pattern)
            else:
                self.assertIsNone(call(story, pattern))

    def test_the_first_scene(self):
        self.check([("s", points(299), None)], False)
        self.check([("s", points(300), None)], True)

    def test_a_scene_that_no_play_comes_to(self):
        self.check([("s", [], None), ("t", points(299), None)], False)
        self.check([("s", [], None), ("t", points(300), None)], True)
        self.check([("s", [("set", "q", 1), ("need", "q", 1, 1)], None), ("t", [], []), ("u", points(300), None)], True)

    def test_runs_of_all_plays_count(self):
        # Each of 150 runs goes on with watch and with skip.
        last = ("t", [], [])
        self.check([("s", points(149) + [("scene", "t")], None), last], False)
        self.check([("s", points(150) + [("scene", "t")], None), last], True)
        self.check([("s", [], None), ("q", points(150) + [("scene", "t")], None), last], True)

    def test_all_notes_count(self):
        # The start has but one of the sides.
        self.check([("s", points(300, note="zz"), None)], True)


class LookTest(unittest.TestCase):

    def test_small_stories(self):
        starts = [Pattern(), start(a=(-2, 2)), start(b=(1, None)), start(a=(1, 1)), start(a=(None, -1), b=(-1, 3))]
        wrong, bad, none = 0, 0, 0
        for first in range(1000, 1160):
            names = "ab"[:1 + first % 2]
            story = Story(Maker(first, names, 1 + first % 3).scenes())
            looker = Looker(story.scenes())
            pattern = starts[first % 5]
            try:
                found = [told(wrong_play(story, pattern)), told(bad_play(story, pattern))]
            except TooMany:
                continue
            every = [notes for notes in grid("ab", range(-5, 6)) if Notes(notes) in pattern]
            if len(names) == 1 and pattern.limit("b") == (None, None):
                every = [notes for notes in every if notes["b"] == 0]
            asked, ended = self.look(looker, story.names()[0], every)
            for play, plays in zip(found, [asked, ended]):
                if play is None:
                    none += 1
                    self.assertEqual(plays, [])
                else:
                    self.assertTrue(Notes(play[0]) in pattern)
                    self.assertFalse(any(is_ahead(other, play) for other in plays))
                    again = self.look(looker, story.names()[0], [play[0]])
                    self.assertIn(play[1], [other[1] for other in again[0 if plays is asked else 1]])
            wrong += found[0] is not None
            bad += found[1] is not None
        self.assertGreater(wrong, 15)
        self.assertGreater(bad, 25)
        self.assertGreater(none, 100)

    def look(self, looker, scene, every):
        """All wrong plays and all bad plays from these notes."""
        asked, ended = [], []
        for notes in every:
            plays, questions = looker.plays(scene, notes)
            asked += [(notes, book) for book, name, here in questions if looker.wrong(name, here)]
            ended += [(notes, list(play[0])) for play in plays if play[2] != "ended"]
        return asked, ended


class TwinTest(unittest.TestCase):

    def check(self, story, notes, book):
        """Check the twin of a play, and return it."""
        given, before = Notes(notes), list(book)
        found = twin(story, given, book)
        self.assertIs(type(found), list)
        self.assertEqual((plain(given), book), (notes, before))
        play, other = resumed(story, Notes(notes), book), resumed(story, Notes(notes), found)
        self.assertEqual((other.state, other.question, other.notes), (play.state, play.question, play.notes))
        follows = resumed(story, Notes(notes), [])
        for word in found:
            self.assertNotEqual((follows.question[0], word), ("skip", "skip"))
            follows.answer(word)
        return found

    def test_the_example(self):
        story = Story(EXAMPLE)
        self.assertEqual(self.check(story, {}, ["skip"]), ["watch", "sit"])
        self.assertEqual(self.check(story, {"met": -7, "q": 2}, ["skip"]), ["watch", "sit"])

    def test_without_skips(self):
        for book in [[], ["watch"], ["watch", "go"], ["watch", "sit"]]:
            self.assertEqual(self.check(Story(EXAMPLE), {}, book), book)
        self.assertEqual(twin(one_scene(), Notes(), []), [])

    def test_what_was_returned_may_change(self):
        for book in [["watch", "go"], ["skip"]]:
            found = twin(Story(EXAMPLE), Notes(), book)
            before = list(found)
            found.append("x")
            self.assertEqual(twin(Story(EXAMPLE), Notes(), book), before)
        book = ["watch"]
        self.assertIsNot(twin(Story(EXAMPLE), Notes(), book), book)

    def test_several_skips(self):
        story = Story([("a", [("scene", "tea"), choice(2), ("scene", "tea"), ("add", "met", 5), ("scene", "tea"),
                              choice(1)],
                        None), RIGHT])
        for words in itertools.product([["skip"], ["watch", "sit"], ["watch", "go"]], ["w", "x"],
                                       [["skip"], ["watch", "go"]], [["skip"], ["watch", "sit"]]):
            book = words[0] + [words[1]] + words[2] + words[3] + ["w"]
            for many in range(len(book) + 1):
                found = self.check(story, {"met": 3}, book[:many])
                if many == len(book):
                    watched = [["watch", "sit"] if word == ["skip"] else word for word in words]
                    self.assertEqual(found, watched[0] + [words[1]] + watched[2] + watched[3] + ["w"])

    def test_scenes_within_scenes(self):
        story = Story([("a", [("scene", "b"), ("scene", "c"), choice(1)], None),
                       ("b", [("scene", "c"), options(("up", [("add", "n", 1)]), ("on", [("scene", "c")])),
                              ("scene", "c")],
                        [({"n": (0, None)}, {"n": ("add", 3)}), ({}, {"n": ("add", -2), "m": ("add", 2)})]),
                       ("c", [("if", "n", 0, None, [("add", "n", 1)], [("add", "n", -1), ("add", "m", 1)])],
                        [({"n": (0, None)}, {"n": ("add", 1)}), ({}, {"n": ("add", -1), "m": ("add", 1)})])])
        self.assertIsNone(wrong_notes(story, "c"))
        self.assertEqual(wrong_notes(story, "b"), Notes({"n": -1}))
        found = self.check(story, {}, ["skip", "skip", "w"])
        self.assertIn(found[:-2], [["watch", "watch", "on", "watch", "watch"], ["watch", "watch", "up", "watch"]])
        self.assertEqual(found[-2:], ["watch", "w"])
        self.assertEqual(self.check(story, {}, ["watch", "skip", "on", "skip", "watch", "skip"]),
                         ["watch", "watch", "on", "watch", "watch", "watch"])
        for book in [["watch", "skip"], ["watch", "skip", "up"], ["watch", "watch", "on", "skip"], ["watch"], ["skip"]]:
            self.check(story, {"n": 4}, book)

    def test_what_follows_behind_the_scene(self):
        # What counts is what the skip leaves, not the notes at the next question.
        story = Story([("a", [("scene", "b"), ("set", "n", 7), ("set", "m", 7), choice(1)], None),
                       ("b", [options(("x", [("set", "n", 1)]), ("y", [("set", "n", 2)]), ("z", [("set", "m", 1)]))],
                        [({"n": (0, 0)}, {"n": ("set", 2)}), ({}, {"m": ("set", 1)})])])
        self.assertEqual(self.check(story, {}, ["skip"]), ["watch", "y"])
        self.assertEqual(self.check(story, {"n": 5}, ["skip", "w"]), ["watch", "z", "w"])
        with self.assertRaises(WrongSkip):
            twin(story.with_skip("b", []), Notes(), ["skip"])

    def test_words_watch_and_skip_of_a_choice(self):
        steps = [options(("skip", [("add", "n", 1)]), ("watch", [("add", "n", 2)]))]
        story = Story([("a", steps + [("scene", "b")] + steps, None), ("b", steps, [({}, {"n": ("add", 1)})])])
        self.assertEqual(self.check(story, {}, ["skip", "skip", "skip"]), ["skip", "watch", "skip", "skip"])
        self.assertEqual(self.check(story, {}, ["watch", "skip"]), ["watch", "watch", "skip"])
        self.assertEqual(self.check(story, {}, ["skip", "watch", "skip", "watch"]), ["skip", "watch", "skip", "watch"])

    def test_plays_that_end_badly(self):
        story = Story([("a", [("scene", "tea"), ("need", "met", 1, None), ("scene", "tea"),
                              ("choose", [("x", {"met": (None, 0)}, [])])], None), RIGHT])
        self.assertEqual(self.check(story, {"met": -5}, ["skip"]), ["watch", "sit"])
        self.assertEqual(self.check(story, {}, ["skip", "skip"]), ["watch", "sit"] * 2)

    def test_invalid_books(self):
        for notes, book, index, over in [({}, ["sit"], 0, False), ({"met": 1}, ["watch", "go", "x"], 2, False),
                                         ({}, ["skip", "x"], 1, False), ({}, ["skip", "skip", "watch"], 2, True),
                                         ({"met": 20}, ["watch", "sit", "watch", "skip"], 3, True)]:
            story = LONG.with_skip("tea", [({}, {"met": ("add", 1)})])
            before = copy.deepcopy(book)
            with self.assertRaises(InvalidBook) as caught:
                twin(story, Notes(notes), book)
            self.assertEqual((caught.exception.index, caught.exception.over), (index, over))
            self.assertIs(type(caught.exception.over), bool)
            self.assertEqual(book, before)
        with self.assertRaises(InvalidBook) as caught:
            twin(one_scene(), Notes(), ["skip"])
        self.assertEqual((caught.exception.index, caught.exception.over), (0, True))

    def test_wrong_skips(self):
        story = Story([("a", [choice(2), ("add", "n", 1), ("scene", "bad"), ("scene", "bad"), ("scene", "bad")], None),
                       WRONG])
        for notes, book, at in [({"n": 2}, ["w", "skip"], 3), ({"n": 1}, ["x", "skip", "skip", "watch"], 3),
                                ({"n": 1}, ["w", "skip", "watch", "skip"], 5),
                                ({"n": 9, "q": 1}, ["w", "skip", "skip"], 10),
                                ({}, ["w", "skip", "watch", "skip"], 3)]:
            given = Notes(notes)
            with self.assertRaises(WrongSkip) as caught:
                twin(story, given, book)
            self.assertEqual(caught.exception.name, "bad")
            self.assertEqual(plain(caught.exception.at), {**notes, "n": at})
            self.assertEqual(plain(given), notes)
        self.check(story, {}, ["w", "skip", "skip"])
        self.check(story, {"n": 2}, ["w", "watch", "watch"])

    def test_a_wrong_skip_is_right_at_some_notes(self):
        self.assertIsNotNone(wrong_notes(Story([WRONG]), "bad"))
        story = Story([("a", [("scene", "bad")], None), WRONG])
        self.assertEqual(self.check(story, {"n": 2}, ["skip"]), ["watch"])

    def test_the_first_answer_that_has_an_error(self):
        story = Story([("a", [("scene", "bad"), ("scene", "big"), ("scene", "tea")], None), WRONG,
                       ("big", points(300), []), RIGHT])
        for book, error in [(["skip", "skip", "skip", "no"], WrongSkip), (["watch", "skip", "no"], TooMany),
                            (["watch", "watch", "no"], InvalidBook), (["no"], InvalidBook),
                            (["watch", "no", "skip"], InvalidBook), (["watch", "skip", "skip", "skip"], TooMany)]:
            with self.assertRaises(error):
                twin(story, Notes({"n": 5}), book)
        self.check(story, {"n": 5}, ["watch", "watch", "skip"])
        self.check(story, {"n": 5}, ["watch", "watch"])

    def test_runs_of_watched_plays_of_the_skipped_scene_count(self):
        story = Story([("a", points(300) + [("scene", "b")], None), ("b", points(150) + [("scene", "c")], []),
                       ("c", [], [])])
        self.assertEqual(self.check(story, {"a": 4}, ["skip"]), ["watch", "watch"])
        story = Story([("a", [("scene", "b")], None), ("b", points(299), [])])
        self.assertEqual(self.check(story, {}, ["skip"]), ["watch"])
        # Too many, and wrong: there are too many.
        with self.assertRaises(TooMany):
            twin(Story([("a", [("scene", "b")], None), ("b", points(300), [({}, {"a": ("add", 1)})])]), Notes(),
                 ["skip"])

    def test_two_hundred_answers(self):
        story = many_questions().with_skip("d", [])
        self.assertEqual(self.check(story, {}, ["skip"] * 200), ["watch"] * 200)

    def test_small_stories(self):
        twins, wrong = 0, 0
        for first in range(1200, 1330):
            names = "ab"[:1 + first % 2]
            scenes = Maker(first, names, 1 + first % 3).scenes()
            # With the skips that scenes without any get here, there is more to skip.
            scenes = [(name, steps, [] if skip is None else skip) for name, steps, skip in scenes]
            story = Story(scenes)
            looker = Looker(story.scenes())
            for notes in grid(names, [-2, 0, 1])[:4]:
                notes = {name: k for name, k in notes.items() if k}
                plays, questions = looker.plays(story.names()[0], notes)
                wrong_at = {tuple(book): (name, here) for book, name, here in questions if looker.wrong(name, here)}
                asked = {tuple(book) for book, name, here in questions}
                for play in plays[:30]:
                    book = list(play[0])
                    first_wrong = [at for at, word in enumerate(book)
                                   if word == "skip" and tuple(book[:at]) in asked and tuple(book[:at]) in wrong_at]
                    try:
                        found = self.check(story, notes, book)
                    except TooMany:
                        continue
                    except WrongSkip as error:
                        wrong += 1
                        self.assertEqual((error.name, plain(error.at)), wrong_at[tuple(book[:first_wrong[0]])])
                        continue
                    self.assertEqual(first_wrong, [])
                    twins += found != book
        self.assertGreater(twins, 40)
        self.assertGreater(wrong, 40)


class SameTest(unittest.TestCase):

    def test_the_same_call_returns_the_same(self):
        limits = {"a": (0, 2), "b": (1, None)}
        first = None
        for order in itertools.permutations("ab"):
            row = {name: limits[name] for name in order}
            story = Story([("s", [("choose", [("x", row, []), ("y", {}, [])]), ("scene", "t"), ("need", "a", -1, None)],
                            None),
                           ("t", [options(("x", []), ("y", []), ("z", [("add", "a", 1)]))],
                            [(row, {"a": ("add", 1)}), ({}, {})])])
            for _ in range(2):
                pattern = Pattern({name: limits[name] for name in order})
                found = repr([told(wrong_play(story, Pattern())), told(bad_play(story, Pattern())),
                              told(bad_play(story, pattern)),
                              twin(story, Notes({name: 1 for name in order}), ["x", "skip"]),
                              twin(story, Notes(), ["y", "skip"])])
                first = first or found
                self.assertEqual(found, first)
                wrong_notes(story, "t")

    def test_a_skip_of_a_scene_alone(self):
        self.assertIsNone(wrong_play(skip_of([({}, {"a": ("add", 1)})]), Pattern()))


if __name__ == "__main__":
    unittest.main()
