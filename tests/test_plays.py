"""[9] and [10]: plays, live plays and resumed plays; [2] and [4] for them."""

import copy
import unittest

from sceneskips.errors import InvalidAnswer, InvalidBook, InvalidScene, NothingToUndo, PlayOver
from sceneskips.notes import Change, Notes
from sceneskips.patterns import Pattern
from sceneskips.plays import Play, resumed
from sceneskips.stories import Story

from tests.brute import Looker, Maker, plain
from tests.test_notes import HUGE, grid
from tests.test_stories import EXAMPLE, NESTED, OBJECTS

LONG = Story([
    ("start", [("show", "hello"), ("scene", "tea"), ("show", "then"), ("scene", "walk"), ("add", "end", 1)],
     [({}, {})]),
    ("tea", [("choose", [("sit", {}, [("add", "met", 1), ("scene", "walk")]), ("go", {"met": (1, None)}, [])]),
             ("show", "out")],
     [({"met": (2, 5)}, {"met": ("set", 9), "a": ("add", 3)}), ({"met": (4, 7)}, {"met": ("add", -1)}),
      ({"met": (6, None), "b": (1, 1)}, {"met": ("add", 1), "b": ("add", 1)})]),
    ("walk", [("show", "steps"), ("need", "met", None, 20)], []),
])


def one_scene(*steps):
    return Story([("a", list(steps), None)])


def seen(play):
    """Everything that a play tells."""
    return (play.state, play.question, play.shown, plain(play.notes), play.answers, len(play))


def after(story, notes, *answers, scene=None):
    play = Play(story, Notes(notes), scene=scene)
    for answer in answers:
        play.answer(answer)
    return play


class StepTest(unittest.TestCase):

    def check(self, play, state, question, shown, notes):
        self.assertEqual(seen(play)[:4], (state, question, shown, notes))

    def test_no_steps(self):
        self.check(after(one_scene(), {"q": 4}), "ended", None, [], {"q": 4})

    def test_show(self):
        self.check(after(one_scene(("show", "x"), ("show", "y"), ("show", "x")), {}), "ended", None, ["x", "y", "x"],
                   {})

    def test_set_and_add(self):
        story = one_scene(("set", "a", 5), ("add", "a", -2), ("add", "b", HUGE), ("set", "c", 0), ("add", "d", 0))
        self.check(after(story, {}), "ended", None, [], {"a": 3, "b": HUGE})
        self.check(after(story, {"a": 7, "b": 1, "c": 2, "d": 4, "z": -1}), "ended", None, [],
                   {"a": 3, "b": HUGE + 1, "d": 4, "z": -1})

    def test_need(self):
        for low, high, good, bad in [(1, 3, [1, 2, 3], [0, 4, -1]), (None, -2, [-2, -HUGE], [-1, 0, HUGE]),
                                     (2, None, [2, HUGE], [1, 0, -2]), (None, None, [0, HUGE, -HUGE], []),
                                     (0, 0, [0], [1, -1])]:
            story = one_scene(("show", "x"), ("need", "a", low, high), ("show", "y"), ("add", "a", 1))
            for k in good:
                self.check(after(story, {"a": k}), "ended", None, ["x", "y"], {"a": k + 1} if k != -1 else {})
            for k in bad:
                self.check(after(story, {"a": k}), "lost", None, ["x"], {"a": k} if k else {})

    def test_need_behind_a_change(self):
        story = one_scene(("add", "a", 2), ("need", "a", 3, None), ("set", "a", 0), ("need", "a", 1, 1))
        self.check(after(story, {"a": 0}), "lost", None, [], {"a": 2})
        self.check(after(story, {"a": 1}), "lost", None, [], {})

    def test_if(self):
        for low, high, good, bad in [(1, 3, [1, 2, 3], [0, 4]), (None, -2, [-2, -9], [-1, 5]),
                                     (2, None, [2, 9], [1, -9]),
                                     (None, None, [0, HUGE, -HUGE], [])]:
            story = one_scene(("if", "a", low, high, [("show", "yes"), ("show", "in")], [("show", "no")]),
                              ("show", "last"))
            for k in good:
                self.check(after(story, {"a": k}), "ended", None, ["yes", "in", "last"], {"a": k} if k else {})
            for k in bad:
                self.check(after(story, {"a": k}), "ended", None, ["no", "last"], {"a": k} if k else {})

    def test_if_without_steps(self):
        story = one_scene(("if", "a", 0, 0, [], [("add", "a", -1)]), ("if", "a", 0, 0, [("show", "x")], []))
        self.check(after(story, {}), "ended", None, ["x"], {})
        self.check(after(story, {"a": 1}), "ended", None, ["x"], {})
        self.check(after(story, {"a": 2}), "ended", None, [], {"a": 1})

    def test_choose(self):
        story = one_scene(("show", "x"), ("choose", [("sit", {}, [("show", "s"), ("add", "a", 1)]), ("go", {}, [])]),
                          ("show", "y"))
        self.check(after(story, {}), "asking", ("choose", ["sit", "go"]), ["x"], {})
        self.check(after(story, {}, "sit"), "ended", None, ["x", "s", "y"], {"a": 1})
        self.check(after(story, {}, "go"), "ended", None, ["x", "y"], {})

    def test_limits_of_options(self):
        story = one_scene(("add", "a", 1), ("choose", [("c", {"a": (1, 3)}, []),
                                                       ("b", {"a": (None, 0), "b": (2, None)}, []),
                                                       ("a", {"b": (1, 2)}, []), ("d", {"a": (3, None)}, [])]))
        for notes, words in [({}, ["c"]), ({"a": 2}, ["c", "d"]), ({"a": 3}, ["d"]), ({"a": -1, "b": 2}, ["b", "a"]),
                             ({"a": 2, "b": 1}, ["c", "a", "d"]), ({"a": -1, "b": 3}, ["b"]), ({"b": 2}, ["c", "a"])]:
            play = after(story, notes)
            self.assertEqual((play.state, play.question), ("asking", ("choose", words)))
        for notes in [{"a": -1}, {"a": -1, "b": -5}, {"a": -9, "b": 0}]:
            play = after(story, notes)
            self.assertEqual((play.state, play.question, play.answers), ("stuck", None, []))

    def test_limits_hold_at_this_moment(self):
        story = one_scene(("choose", [("up", {"a": (None, 1)}, [("add", "a", 1)]), ("no", {"a": (1, None)}, [])]),
                          ("choose", [("up", {"a": (None, 1)}, [("add", "a", 1)]), ("no", {"a": (1, None)}, [])]))
        self.assertEqual(after(story, {}).question, ("choose", ["up"]))
        self.assertEqual(after(story, {}, "up").question, ("choose", ["up", "no"]))
        self.assertEqual(after(story, {"a": 1}, "up").question, ("choose", ["no"]))
        self.assertEqual(after(story, {"a": 1}, "no").question, ("choose", ["up", "no"]))

    def test_stuck_in_the_middle(self):
        story = one_scene(("choose", [("x", {}, [("set", "a", 1)]), ("y", {}, [])]), ("show", "z"),
                          ("choose", [("x", {"a": (0, 0)}, [])]), ("show", "w"))
        self.check(after(story, {}, "x"), "stuck", None, ["z"], {"a": 1})
        self.check(after(story, {}, "y"), "asking", ("choose", ["x"]), ["z"], {})
        self.check(after(story, {}, "y", "x"), "ended", None, ["z", "w"], {})

    def test_choices_within_choices(self):
        story = one_scene(("choose", [("x", {}, [("choose", [("x", {}, [("show", "in")]), ("y", {}, [])]),
                                                 ("show", "m")])]),
                          ("choose", [("z", {}, [])]))
        self.check(after(story, {}, "x"), "asking", ("choose", ["x", "y"]), [], {})
        self.check(after(story, {}, "x", "x"), "asking", ("choose", ["z"]), ["in", "m"], {})

    def test_scene_without_skip(self):
        story = Story([("a", [("show", "x"), ("scene", "b"), ("show", "y")], None),
                       ("b", [("show", "in"), ("scene", "c"), ("show", "out")], None),
                       ("c", [("add", "n", 1), ("choose", [("go", {}, [("show", "deep")])])], None)])
        self.check(after(story, {}), "asking", ("choose", ["go"]), ["x", "in"], {"n": 1})
        self.check(after(story, {}, "go"), "ended", None, ["x", "in", "deep", "out", "y"], {"n": 1})

    def test_scene_with_skip(self):
        self.check(after(LONG, {}), "asking", ("skip", "tea"), ["hello"], {})
        self.check(after(LONG, {}, "watch"), "asking", ("choose", ["sit"]), ["hello"], {})
        self.check(after(LONG, {}, "watch", "sit"), "asking", ("skip", "walk"), ["hello"], {"met": 1})
        self.check(after(LONG, {}, "watch", "sit", "skip"), "asking", ("skip", "walk"), ["hello", "out", "then"],
                   {"met": 1})
        self.check(after(LONG, {}, "watch", "sit", "skip", "watch"), "ended", None,
                   ["hello", "out", "then", "steps"], {"met": 1, "end": 1})
        self.check(after(LONG, {"met": 21}, "watch", "go", "watch"), "lost", None,
                   ["hello", "out", "then", "steps"], {"met": 21})

    def test_the_first_row_that_holds(self):
        for notes, left in [({"met": 2}, {"met": 9, "a": 3}), ({"met": 5}, {"met": 9, "a": 3}),
                            ({"met": 4}, {"met": 9, "a": 3}),
                            ({"met": 6}, {"met": 5}), ({"met": 7, "b": 1}, {"met": 6, "b": 1}),
                            ({"met": 8, "b": 1}, {"met": 9, "b": 2}), ({"met": 8}, {"met": 8}), ({}, {}),
                            ({"met": 1, "a": 2}, {"met": 1, "a": 2})]:
            self.check(after(LONG, notes, "skip"), "asking", ("skip", "walk"), ["hello", "then"], left)

    def test_no_rows(self):
        self.check(after(LONG, {"met": 30, "q": 2}, "watch", "sit", "skip", "skip"), "ended", None,
                   ["hello", "out", "then"], {"met": 31, "q": 2, "end": 1})

    def test_a_scene_that_is_played_itself_is_never_asked_for(self):
        for name in LONG.names():
            self.assertIsNotNone(LONG.scenes()[LONG.names().index(name)][2])
        self.check(after(LONG, {}), "asking", ("skip", "tea"), ["hello"], {})
        self.check(after(LONG, {}, scene="start"), "asking", ("skip", "tea"), ["hello"], {})
        self.check(after(LONG, {}, scene="tea"), "asking", ("choose", ["sit"]), [], {})
        self.check(after(LONG, {}, scene="walk"), "ended", None, ["steps"], {})

    def test_words_watch_and_skip_of_a_choice(self):
        story = Story([("a", [("choose", [("skip", {}, [("show", "s")]),
                                          ("watch", {}, [("show", "w"), ("scene", "b")])]),
                              ("show", "z")], None),
                       ("b", [("choose", [("skip", {"n": (1, None)}, []), ("watch", {}, [("show", "in")])])],
                        [({}, {"n": ("add", 1)})])])
        self.check(after(story, {}), "asking", ("choose", ["skip", "watch"]), [], {})
        self.check(after(story, {}, "skip"), "ended", None, ["s", "z"], {})
        self.check(after(story, {}, "watch"), "asking", ("skip", "b"), ["w"], {})
        self.check(after(story, {}, "watch", "skip"), "ended", None, ["w", "z"], {"n": 1})
        self.check(after(story, {"n": 1}, "watch", "watch", "skip"), "ended", None, ["w", "z"], {"n": 1})
        with self.assertRaises(InvalidAnswer):
            after(story, {}, "watch", "watch", "skip")

    def test_scenes_with_the_names_of_states_and_questions(self):
        for name in ["choose", "skip", "watch", "asking", "ended"]:
            story = Story([("a", [("scene", name)], None), (name, [("show", "x")], [])])
            self.check(after(story, {}), "asking", ("skip", name), [], {})
            self.check(after(story, {}, "watch"), "ended", None, ["x"], {})
            self.check(after(story, {}, "skip"), "ended", None, [], {})

    def test_like_looking_at_all_plays(self):
        many = 0
        for first in range(120):
            names = "abc"[:1 + first % 3]
            story = Story(Maker(first, names, 1 + first % 3).scenes())
            looker = Looker(story.scenes())
            for notes in grid(names, [-2, 0, 3])[:5]:
                for scene in story.names():
                    plays, questions = looker.plays(scene, notes)
                    found, asked = [], []
                    if len(plays) < 200:
                        self.look(Play(story, Notes(notes), scene=scene), found, asked)
                        self.assertEqual(found, [(list(play[0]), list(play[1]), play[2], play[3]) for play in plays])
                        self.assertEqual(asked, questions)
                        many += len(found)
        self.assertGreater(many, 1000)

    def look(self, play, found, asked):
        if play.question is None:
            found.append((play.answers, play.shown, play.state, plain(play.notes)))
            return
        kind, words = play.question
        if kind == "skip":
            asked.append((play.answers, words, plain(play.notes)))
            words = ["watch", "skip"]
        before = seen(play)
        for word in words:
            play.answer(word)
            self.look(play, found, asked)
            play.back()
            self.assertEqual(seen(play), before)


class AnswerTest(unittest.TestCase):

    def test_answer_returns_nothing(self):
        play = Play(LONG, Notes())
        self.assertIsNone(play.answer("watch"))
        self.assertIsNone(play.answer("sit"))

    def test_answers(self):
        play = Play(LONG, Notes())
        self.assertEqual((play.answers, len(play)), ([], 0))
        for at, word in enumerate(["watch", "sit", "skip", "watch"]):
            play.answer(word)
            self.assertEqual((play.answers, len(play)), (["watch", "sit", "skip", "watch"][:at + 1], at + 1))
        self.assertEqual(play.state, "ended")

    def check_refused(self, play, word, error):
        before = seen(play)
        with self.assertRaises(error) as caught:
            play.answer(word)
        self.assertIs(type(caught.exception), error)
        self.assertEqual(seen(play), before)

    def test_words_that_are_not_offered(self):
        story = one_scene(("choose", [("sit", {}, []), ("go", {"a": (1, None)}, [])]), ("choose", [("far", {}, [])]))
        play = Play(story, Notes())
        for word in ["go", "far", "watch", "skip", "", "si", "sitt", "Sit", "sit ", " sit", "choose"]:
            self.check_refused(play, word, InvalidAnswer)
        play.answer("sit")
        for word in ["sit", "go", "watch"]:
            self.check_refused(play, word, InvalidAnswer)

    def test_words_that_are_not_watch_or_skip(self):
        for word in ["sit", "go", "tea", "walk", "", "Skip", "watch ", "skip\n", "watchskip"]:
            self.check_refused(Play(LONG, Notes()), word, InvalidAnswer)

    def test_values_of_other_kinds(self):
        for word in [None, True, False, 0, 1, ["watch"], ("watch",), {"watch": 1}, b"watch",
                     ["sit"]] + NESTED + OBJECTS:
            self.check_refused(Play(LONG, Notes()), word, InvalidAnswer)
            self.check_refused(after(LONG, {}, "watch"), word, InvalidAnswer)

    def test_complete_plays(self):
        story = one_scene(("choose", [("x", {}, [("need", "a", 1, None)]),
                                      ("y", {}, [("choose", [("z", {"a": (1, 1)}, [])])])]))
        for play, state in [(after(one_scene(), {}), "ended"), (after(story, {"a": 1}, "x"), "ended"),
                            (after(story, {"a": 1}, "y", "z"), "ended"), (after(story, {}, "x"), "lost"),
                            (after(story, {}, "y"), "stuck")]:
            self.assertEqual(play.state, state)
            for word in ["x", "y", "z", "watch", "skip", "", None, 5, ["x"]] + NESTED + OBJECTS:
                self.check_refused(play, word, PlayOver)


class BackTest(unittest.TestCase):

    def test_back(self):
        for notes in [{}, {"met": 6}, {"met": 20}]:
            for book in [["watch", "sit", "skip", "watch"], ["skip", "skip"], ["watch", "sit", "watch"]]:
                for many in range(len(book) + 1):
                    for count in range(many + 1):
                        play = after(LONG, notes, *book[:many])
                        self.assertIsNone(play.back(count))
                        self.assertEqual(seen(play), seen(after(LONG, notes, *book[:many - count])))

    def test_one_is_taken_back_without_a_count(self):
        play = after(LONG, {}, "watch", "sit", "skip", "watch")
        self.assertEqual(play.state, "ended")
        for many in [3, 2, 1, 0]:
            self.assertIsNone(play.back())
            self.assertEqual(seen(play), seen(after(LONG, {}, *["watch", "sit", "skip", "watch"][:many])))
        with self.assertRaises(NothingToUndo):
            play.back()

    def test_too_many(self):
        for book in [[], ["watch"], ["skip", "watch"], ["watch", "sit", "skip", "watch"]]:
            play = after(LONG, {}, *book)
            before = seen(play)
            for count in [len(book) + 1, len(book) + 2, 500, HUGE]:
                with self.assertRaises(NothingToUndo):
                    play.back(count)
                self.assertEqual(seen(play), before)

    def test_back_by_0(self):
        for book in [[], ["watch"], ["watch", "sit", "skip", "watch"]]:
            play = after(LONG, {"met": 1}, *book)
            before = seen(play)
            self.assertIsNone(play.back(0))
            self.assertEqual(seen(play), before)
        play = after(one_scene(), {})
        self.assertIsNone(play.back(0))
        with self.assertRaises(NothingToUndo):
            play.back(1)

    def test_other_answers_behind_it(self):
        play = after(LONG, {}, "watch", "sit", "skip", "watch")
        play.back(3)
        play.answer("sit")
        play.answer("watch")
        self.assertEqual(seen(play), seen(after(LONG, {}, "watch", "sit", "watch")))
        play.back(3)
        play.answer("skip")
        self.assertEqual(seen(play), seen(after(LONG, {}, "skip")))

    def test_two_hundred_answers(self):
        play = Play(many_questions(), Notes())
        book = ["watch" if at % 3 else "skip" for at in range(200)]
        for word in book:
            play.answer(word)
        self.assertEqual((play.state, len(play), play.answers), ("ended", 200, book))
        self.assertEqual(play.shown, ["in"] * 133)
        self.assertEqual(plain(play.notes), {"a": 67})
        play.back(150)
        self.assertEqual((play.question, play.answers), (("skip", "d"), book[:50]))
        play.back(50)
        self.assertEqual((play.answers, play.shown), ([], []))
        with self.assertRaises(NothingToUndo):
            play.back()


def many_questions():
    """A story with 200 questions whether to skip."""
    return Story([("a", [("scene", "b")] * 5, None), ("b", [("scene", "c")] * 5, None),
                  ("c", [("scene", "d")] * 8, None),
                  ("d", [("show", "in")], [({}, {"a": ("add", 1)})])])


class SceneTest(unittest.TestCase):

    def test_another_scene(self):
        story = Story(EXAMPLE)
        self.assertEqual(Play(story, Notes()).question, ("skip", "tea"))
        self.assertEqual(Play(story, Notes(), scene=None).question, ("skip", "tea"))
        self.assertEqual(Play(story, Notes(), scene="start").question, ("skip", "tea"))
        self.assertEqual(Play(story, Notes(), scene="tea").question, ("choose", ["sit", "go"]))
        self.assertEqual(resumed(story, Notes(), ["sit"], scene="tea").state, "ended")

    def test_no_scene_of_this_name(self):
        story = Story(EXAMPLE)
        for name in ["", "te", "teas", "Start", "met", "sit", "start "]:
            with self.assertRaises(InvalidScene):
                Play(story, Notes(), scene=name)
            for book in [[], ["watch"], ["wrong"], [None, 5]]:
                with self.assertRaises(InvalidScene):
                    resumed(story, Notes(), book, scene=name)


class CopyTest(unittest.TestCase):

    def test_what_was_passed_may_change(self):
        scenes = copy.deepcopy(EXAMPLE)
        story, notes = Story(scenes), Notes({"met": 3})
        play = Play(story, notes)
        notes["met"] = 9
        notes += Change({"z": ("set", 5)})
        scenes[1][1].clear()
        self.assertEqual(plain(play.notes), {"met": 3})
        play.answer("watch")
        self.assertEqual(play.question, ("choose", ["sit", "go"]))
        play.back()
        self.assertEqual(plain(play.notes), {"met": 3})

    def test_arguments_are_not_changed(self):
        story, notes, book = Story(EXAMPLE), Notes({"met": 3}), ["watch", "sit"]
        play = Play(story, notes)
        play.answer("skip")
        resumed(story, notes, book)
        self.assertEqual(plain(notes), {"met": 3})
        self.assertEqual(book, ["watch", "sit"])
        self.assertEqual(story, Story(EXAMPLE))

    def test_what_was_returned_may_change(self):
        for book in [[], ["watch"], ["watch", "sit", "skip", "watch"]]:
            play = after(LONG, {"met": 1}, *book)
            before = seen(play)
            play.notes["met"] = 70
            notes = play.notes
            notes += Change({"met": ("add", 1)})
            play.shown.append("more")
            play.answers.clear()
            if play.question is not None and play.question[0] == "choose":
                play.question[1].clear()
            self.assertEqual(seen(play), before)
            play.back(0)
            self.assertEqual(seen(play), before)

    def test_a_book_may_change(self):
        book = ["watch", "sit"]
        play = resumed(Story(EXAMPLE), Notes(), book)
        book.clear()
        self.assertEqual(play.answers, ["watch", "sit"])

    def test_two_plays_of_one_story(self):
        notes = Notes({"met": 1})
        one, other = Play(LONG, notes), Play(LONG, notes)
        one.answer("watch")
        one.answer("sit")
        self.assertEqual(seen(other), seen(after(LONG, {"met": 1})))
        other.answer("skip")
        self.assertEqual(seen(one), seen(after(LONG, {"met": 1}, "watch", "sit")))
        one.back(2)
        self.assertEqual(seen(other), seen(after(LONG, {"met": 1}, "skip")))
        self.assertEqual(plain(notes), {"met": 1})

    def test_kinds_of_values(self):
        play = after(LONG, {}, "watch")
        self.assertEqual([type(value) for value in (play.state, play.question, play.question[1], play.shown,
                                                    play.answers,
                                                    play.notes, len(play))],
                         [str, tuple, list, list, list, Notes, int])


class ResumedTest(unittest.TestCase):

    def test_resumed(self):
        for book in [[], ["watch"], ["skip"], ["watch", "sit"], ["watch", "sit", "skip", "watch"]]:
            play = resumed(LONG, Notes({"met": 1}), book)
            self.assertIsInstance(play, Play)
            self.assertEqual(seen(play), seen(after(LONG, {"met": 1}, *book)))
            play.back(len(book))
            self.assertEqual(seen(play), seen(after(LONG, {"met": 1})))

    def test_with_another_story_and_other_notes(self):
        book = after(LONG, {}, "watch", "sit", "skip", "skip").answers
        other = LONG.with_skip("walk", [({}, {"met": ("add", 5)})])
        self.assertEqual(plain(resumed(other, Notes({"met": 10}), book).notes), {"met": 21, "end": 1})
        with self.assertRaises(InvalidBook) as caught:
            resumed(LONG.with_skip("walk", None), Notes(), book)
        self.assertEqual((caught.exception.index, caught.exception.over), (2, True))

    def check_refused(self, story, notes, book, index, over):
        before = copy.deepcopy(book)
        with self.assertRaises(InvalidBook) as caught:
            resumed(story, Notes(notes), book)
        self.assertEqual((caught.exception.index, caught.exception.over), (index, over))
        self.assertIs(type(caught.exception.over), bool)
        self.assertEqual(book, before)

    def test_the_first_answer_that_is_refused(self):
        self.check_refused(LONG, {}, ["sit"], 0, False)
        self.check_refused(LONG, {}, ["watch", "go", "sit"], 1, False)
        self.check_refused(LONG, {}, ["watch", "watch"], 1, False)
        self.check_refused(LONG, {}, ["skip", "skip", "skip"], 2, True)
        self.check_refused(LONG, {}, ["skip", "skip", "skip", "wrong"], 2, True)
        self.check_refused(LONG, {}, ["watch", "sit", "skip", "watch", "watch"], 4, True)
        self.check_refused(LONG, {"met": 20}, ["watch", "sit", "watch", "watch"], 3, True)
        self.check_refused(one_scene(), {}, ["x"], 0, True)
        self.check_refused(one_scene(("choose", [("x", {"a": (1, 1)}, [])])), {}, ["x"], 0, True)

    def test_answers_of_other_kinds(self):
        for word in [None, 0, True, ["watch"], ("watch",), {}, Pattern(), Notes()]:
            with self.assertRaises(InvalidBook) as caught:
                resumed(LONG, Notes(), ["watch", "sit", word, "skip"])
            self.assertEqual((caught.exception.index, caught.exception.over), (2, False))
            with self.assertRaises(InvalidBook) as caught:
                resumed(LONG, Notes(), ["skip", "skip", word])
            self.assertEqual((caught.exception.index, caught.exception.over), (2, True))

    def test_two_hundred_answers(self):
        book = ["skip"] * 200
        self.assertEqual(plain(resumed(many_questions(), Notes(), book).notes), {"a": 200})
        self.check_refused(many_questions(), {}, book + ["skip"], 200, True)
        self.check_refused(many_questions(), {}, book[:199] + ["x"], 199, False)


if __name__ == "__main__":
    unittest.main()
