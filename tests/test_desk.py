"""[19]: the desk; [2] and [4] for it."""

import unittest

from sceneskips.desk import Desk
from sceneskips.errors import (InvalidAnswer, InvalidCommand, InvalidScene, NoPlay, NoSkip, NothingToUndo, PlayOver,
                               TooMany)
from sceneskips.notes import Notes
from sceneskips.patterns import Pattern
from sceneskips.plays import Play
from sceneskips.stories import Story
from sceneskips.texts import show_story
from sceneskips.whole import bad_play

from tests.brute import Maker
from tests.test_notes import HUGE
from tests.test_stories import EXAMPLE, NESTED, OBJECTS
from tests.test_texts import EXAMPLE_TEXT
from tests.test_ways import points

TEA = EXAMPLE_TEXT.replace("\n", "/")
NO_ROWS = TEA.removesuffix("/row : met+1")
NO_SKIP = NO_ROWS.removesuffix("/skip")
LOST = "scene a/play b/choose/option up/add n 1/option on n=*..3/end/need n * 4/scene b/show x/skip/row n=7..* : m:2"


def desk_with(*commands):
    desk = Desk()
    for command in commands:
        desk.execute(command)
    return desk


class DeskCase(unittest.TestCase):

    def run_all(self, desk, *steps):
        """Execute commands, given as tuples of a command and what it returns or raises."""
        for command, wanted in steps:
            if isinstance(wanted, str):
                found = desk.execute(command)
                self.assertIs(type(found), str)
                self.assertEqual(found, wanted, command)
            else:
                with self.assertRaises(wanted, msg=command) as caught:
                    desk.execute(command)
                self.assertIs(type(caught.exception), wanted)


class StoryTest(DeskCase):

    def test_at_first(self):
        self.run_all(Desk(), ("show", "scene a"), ("check", "right"), ("bad", "none"), ("undo", NothingToUndo),
                     ("wrong a", NoSkip), ("answer x", NoPlay), ("back 0", NoPlay), ("play -", "ended -"))

    def test_story(self):
        self.run_all(Desk(), ("story " + TEA, "ok"), ("show", TEA), ("story scene b", "ok"), ("show", "scene b"),
                     ("story scene b", "ok"), ("story scene a/skip/row a=1..* : a+-1/row : b:0", "ok"),
                     ("show", "scene a/skip/row a=1..* : a+-1/row : b:0"))

    def test_skip(self):
        self.run_all(desk_with("story " + TEA),
                     ("skip tea none", "ok"), ("show", NO_SKIP),
                     ("skip tea empty", "ok"), ("show", NO_ROWS),
                     ("skip tea row :", "ok"), ("show", NO_ROWS + "/row :"),
                     ("skip tea row met=1..2 q=*..-3 : met:0/row :/row : z+-1", "ok"),
                     ("show", NO_ROWS + "/row met=1..2 q=*..-3 : met:0/row :/row : z+-1"),
                     ("skip start empty", "ok"),
                     ("show", NO_ROWS.replace("/scene tea", "/skip/scene tea")
                      + "/row met=1..2 q=*..-3 : met:0/row :/row : z+-1"))

    def test_names_that_are_words(self):
        self.run_all(desk_with("story scene none/scene empty/scene row/scene skip"),
                     ("skip none none", "ok"), ("skip empty empty", "ok"), ("skip row row : row+1", "ok"),
                     ("skip skip none", "ok"),
                     ("show", "scene none/scene empty/skip/scene row/skip/row : row+1/scene skip"),
                     ("wrong empty", "right"), ("wrong row", "-"), ("check", "row"))

    def test_undo(self):
        self.run_all(Desk(), ("story " + TEA, "ok"), ("skip tea none", "ok"), ("skip tea none", "ok"),
                     ("undo", "ok"), ("show", NO_SKIP), ("undo", "ok"), ("show", TEA), ("undo", "ok"),
                     ("show", "scene a"), ("undo", NothingToUndo), ("show", "scene a"), ("story scene b", "ok"),
                     ("story scene b", "ok"), ("undo", "ok"), ("show", "scene b"), ("undo", "ok"), ("show", "scene a"),
                     ("undo", NothingToUndo))

    def test_undo_is_no_change_that_is_taken_back(self):
        self.run_all(Desk(), ("story scene b", "ok"), ("story scene c", "ok"), ("undo", "ok"), ("story scene d", "ok"),
                     ("undo", "ok"), ("show", "scene b"), ("undo", "ok"), ("show", "scene a"), ("undo", NothingToUndo))

    def test_what_raises_does_not_count(self):
        self.run_all(desk_with("story scene b"), ("skip a none", InvalidScene), ("skip b row", InvalidCommand),
                     ("story scene", InvalidCommand), ("play x", InvalidCommand), ("wrong b", NoSkip), ("undo", "ok"),
                     ("show", "scene a"), ("undo", NothingToUndo))

    def test_nothing_else_counts(self):
        self.run_all(desk_with("story " + TEA), ("show", TEA), ("check", "right"), ("bad", "none"),
                     ("wrong tea", "right"),
                     ("play -", "skip tea"), ("answer skip", "ended met=1"), ("back 1", "skip tea"), ("undo", "ok"),
                     ("show", "scene a"))


class CheckTest(DeskCase):

    def test_wrong(self):
        desk = desk_with("story scene a/if n 5 */add m 1/else/end/scene b/need c 0 0/skip/scene c/skip")
        self.run_all(desk, ("wrong a", NoSkip), ("wrong b", "c=1"), ("wrong c", "right"), ("wrong d", InvalidScene),
                     ("skip a empty", "ok"), ("wrong a", "n=5"),
                     ("skip a row n=5..* : m+1", "ok"), ("wrong a", "right"),
                     ("skip a row n=6..* : m+1", "ok"), ("wrong a", "n=5"),
                     ("skip a row n=4..* : m+1", "ok"), ("wrong a", "n=4"),
                     ("skip a row n=5..* q=*..-1 : m+1", "ok"), ("wrong a", "n=5"),
                     ("skip a row n=-3..-3 q=2..* : m+1/row n=5..* : m+1", "ok"), ("wrong a", "n=-3 q=2"),
                     ("skip a row : m:7", "ok"), ("wrong a", "-"))

    def test_check(self):
        self.run_all(desk_with("story " + TEA), ("check", "right"), ("skip start row : q+1", "ok"), ("check", "start"),
                     ("skip tea row : met:1", "ok"), ("check", "start"), ("skip start none", "ok"), ("check", "tea"),
                     ("wrong tea", "met=-1"), ("skip tea none", "ok"), ("check", "right"))

    def test_the_first_scene_that_is_wrong_or_raises(self):
        many = "/".join(f"if a {k} {k}/else/end" for k in range(300))
        wrong = "scene b/add n 1/skip"
        self.run_all(Desk(), (f"story scene a/scene m/{many}", "ok"), ("check", "right"),
                     (f"story scene a/{wrong}/scene m/{many}/skip", "ok"), ("check", "b"), ("wrong m", TooMany),
                     (f"story scene a/scene m/{many}/skip/{wrong}", "ok"), ("check", TooMany), ("wrong b", "-"),
                     ("skip m none", "ok"), ("check", "b"), ("bad", TooMany))

    def test_bad(self):
        self.run_all(Desk(), ("bad", "none"), ("story " + LOST, "ok"), ("bad", "n=4 | skip up"),
                     ("story scene a/need n 0 0/need m 0 0", "ok"), ("bad", "n=1 |"),
                     ("story scene a/set n 1/need n 0 0", "ok"), ("bad", "- |"),
                     ("story scene a/need n 0 */need b -7 *", "ok"), ("bad", "n=-1 |"),
                     ("story scene a/if b 2 3/need a * -5/else/end", "ok"), ("bad", "b=2 |"),
                     ("story scene a/if b 2 3/need a 3 */else/end", "ok"), ("bad", "b=2 |"),
                     ("story scene a/if b -4 -2/if c 1 1/choose/option x d=1..1/end/else/end/else/end", "ok"),
                     ("bad", "b=-2 c=1 |"),
                     ("story scene a/choose/option no/option yes/choose/option go n=1..*/end/end", "ok"),
                     ("bad", "- | yes"),
                     ("story scene a/scene b/need n 1 1", "ok"), ("bad", "none"))

    def test_bad_is_that_of_the_function(self):
        for first in range(60):
            story = Story(Maker(first, "ab", 2).scenes())
            try:
                play = bad_play(story, Pattern())
            except TooMany:
                continue
            wanted = "none"
            if play is not None:
                notes = " ".join(f"{name}={k}" for name, k in play[0].pairs()) or "-"
                wanted = " ".join([notes, "|"] + play[1])
            self.run_all(Desk(), ("story " + show_story(story).replace("\n", "/"), "ok"), ("bad", wanted))


class PlayTest(DeskCase):

    def test_plain(self):
        self.run_all(desk_with("story " + TEA), ("play -", "skip tea"), ("answer watch", "choose sit go"),
                     ("answer sit", "ended met=1"), ("back 1", "choose sit go"), ("answer go", "ended -"),
                     ("back 2", "skip tea"), ("answer skip", "ended met=1"), ("play met=-3", "skip tea"),
                     ("answer skip", "ended met=-2"))

    def test_ends(self):
        self.run_all(desk_with("story " + LOST), ("play n=7", "skip b"), ("answer skip", "choose up"),
                     ("answer up", "lost m=2 n=8"), ("answer up", PlayOver), ("answer watch", PlayOver),
                     ("back 1", "choose up"), ("back 1", "skip b"), ("answer watch", "choose up"),
                     ("answer up", "lost n=8"),
                     ("play a=1 n=3", "skip b"), ("answer watch", "choose up on"), ("answer up", "ended a=1 n=4"))
        self.run_all(desk_with("story scene a/choose/option x n=1..*/option y n=2..*/end"), ("play -", "stuck -"),
                     ("play n=1", "choose x"), ("play n=2", "choose x y"), ("answer y", "ended n=2"),
                     ("play n=-2", "stuck n=-2"), ("answer x", PlayOver), ("back 0", "stuck n=-2"))

    def test_answers_that_are_refused(self):
        self.run_all(desk_with("story " + TEA), ("play -", "skip tea"), ("answer sit", InvalidAnswer),
                     ("answer tea", InvalidAnswer), ("back 0", "skip tea"), ("answer watch", "choose sit go"),
                     ("answer watch", InvalidAnswer), ("answer x", InvalidAnswer), ("back 0", "choose sit go"),
                     ("answer go", "ended -"), ("answer go", PlayOver), ("answer x", PlayOver), ("back 0", "ended -"))

    def test_back(self):
        desk = desk_with("story scene a/" + "/".join(["choose/option x/add n 1/option y/end"] * 3))
        self.run_all(desk, ("back 0", NoPlay), ("back 1", NoPlay), ("back 200", NoPlay), ("back 201", InvalidCommand),
                     ("play n=5", "choose x y"), ("back 0", "choose x y"), ("back 1", NothingToUndo),
                     ("answer x", "choose x y"), ("answer x", "choose x y"), ("answer x", "ended n=8"),
                     ("back 0", "ended n=8"), ("back 4", NothingToUndo), ("back 200", NothingToUndo),
                     ("back 201", InvalidCommand), ("back 0", "ended n=8"), ("back 2", "choose x y"),
                     ("answer y", "choose x y"), ("answer y", "ended n=6"), ("back 3", "choose x y"),
                     ("back 1", NothingToUndo), ("undo", "ok"), ("back 0", NoPlay))
        for text in ["01", "00", "-0", "-1", "+1", "1.0", "", " ", "1 ", " 1", "a", "1 1", "*", "999", "202", "\u0661",
                     str(10 ** 30)]:
            self.run_all(desk, ("back " + text, InvalidCommand))

    def test_two_hundred(self):
        loop = "scene a/" + "/".join(["play b"] * 20) + "/scene b/" + "/".join(["choose/option x/add n 1/end"] * 10)
        self.run_all(desk_with("story " + loop, "play -", *["answer x"] * 200), ("back 0", "ended n=200"),
                     ("back 200", "choose x"), ("answer x", "choose x"), ("back 2", NothingToUndo))

    def test_notes(self):
        desk = desk_with("story scene a/add n 1")
        for notes, wanted in [("-", "n=1"), ("a=1", "a=1 n=1"), ("n=-1", "-"), ("n=-2", "n=-1"),
                              ("a=5 ab=-6 b=7 n=10", "a=5 ab=-6 b=7 n=11"), (f"n={HUGE}", f"n={HUGE + 1}"),
                              ("abcdefgh=12", "abcdefgh=12 n=1"), (f"z=-{HUGE}", f"n=1 z=-{HUGE}")]:
            self.run_all(desk, ("play " + notes, "ended " + wanted))
        for notes in ["", " ", "--", "- -", "- a=1", "a=1 -", "a=0", "a=00", "a=01", "a=-0", "a=-01", "a=+1", "a=1 a=1",
                      "a=1 a=2", "b=1 a=1", "b=1 ab=1", "a=1  b=1", " a=1", "a=1 ", "a", "a=", "=1", "a=b", "a==1",
                      "a:1", "a+1", "A=1", "abcdefghi=1", "a1=1", "a=1,b=2", "a=1 b", "a=1 b=0", "a=\u0661", "a=1..1",
                      "a=*", "a = 1", "a=1 | x", "a=1\n", "-\n"]:
            self.run_all(desk, ("play " + notes, InvalidCommand))
        self.run_all(desk, ("back 0", f"ended n=1 z=-{HUGE}"))

    def test_changes_end_the_play(self):
        for change in ["story scene b", "story " + TEA, "skip tea empty", "skip tea row : met+1", "undo"]:
            for ahead in [[], ["answer watch"], ["answer skip"]]:
                desk = desk_with("story scene c", "story " + TEA, "play -", *ahead)
                self.run_all(desk, (change, "ok"), ("answer watch", NoPlay), ("answer skip", NoPlay),
                             ("back 0", NoPlay),
                             ("back 1", NoPlay))

    def test_what_is_refused_ends_nothing(self):
        desk = desk_with("story " + TEA, "play met=4", "answer watch")
        for command, error in [("story scene", InvalidCommand), ("skip tea row", InvalidCommand),
                               ("skip no none", InvalidScene), ("skip tea", InvalidCommand), ("play", InvalidCommand),
                               ("play a=0", InvalidCommand), ("answer watch", InvalidAnswer), ("back 9", NothingToUndo),
                               ("wrong start", NoSkip), ("wrong no", InvalidScene), ("nothing", InvalidCommand),
                               ("answer", InvalidCommand), ("back", InvalidCommand), ("back 201", InvalidCommand)]:
            self.run_all(desk, (command, error), ("back 0", "choose sit go"), ("show", TEA))
        for command in ["show", "check", "bad", "wrong tea"]:
            desk.execute(command)
            self.run_all(desk, ("back 0", "choose sit go"))
        self.run_all(desk, ("answer sit", "ended met=5"), ("undo", "ok"), ("undo", NothingToUndo))
        self.run_all(desk_with("play -"), ("undo", NothingToUndo), ("back 0", "ended -"))

    def test_plays_are_those_of_play(self):
        looked = 0
        for first in range(80):
            story = Story(Maker(first, "ab", 3).scenes())
            desk = desk_with("story " + show_story(story).replace("\n", "/"))
            notes, play = {"a": first % 3 - 1}, Play(story, Notes({"a": first % 3 - 1}))
            text = " ".join(f"{name}={k}" for name, k in notes.items() if k) or "-"
            command = "play " + text
            for _ in range(20):
                wanted = " ".join([play.state] + ([f"{name}={k}" for name, k in play.notes.pairs()] or ["-"]))
                if play.question is not None:
                    kind, asked = play.question
                    wanted = f"skip {asked}" if kind == "skip" else " ".join([kind] + asked)
                self.run_all(desk, (command, wanted))
                if play.question is None:
                    break
                word = ["watch", "skip"][first % 2] if kind == "skip" else asked[-1]
                play.answer(word)
                command = "answer " + word
                looked += 1
        self.assertGreater(looked, 40)


class CommandTest(DeskCase):

    def refused(self, *commands):
        for desk in [Desk(), desk_with("story " + TEA, "play -")]:
            show = desk.execute("show")
            for command in commands:
                with self.assertRaises(InvalidCommand, msg=repr(command)[:200]):
                    desk.execute(command)
            self.assertEqual(desk.execute("show"), show)

    def test_no_string(self):
        self.refused(None, True, False, 0, 1, 1.5, b"show", ["show"], ("show",), {"show": 1}, ("play", "-"), *NESTED,
                     *OBJECTS)

    def test_words(self):
        self.refused("", " ", "\n", "nothing", "Show", "SHOW", "shows", "sho", "show show", "show ", " show", "show\n",
                     "\nshow", "show\t", "show -", "show tea", "undo ", " undo", "undo 1", "undo undo", "undo\n",
                     "check ", "check tea", "check\n", "bad ", "bad -", "bad\n", "execute", "quit", "help", "-", "back",
                     "play", "answer", "wrong", "story", "skip", "play-", "back0", "show\r", "show/", "show\u00a0")

    def test_missing_and_further_words(self):
        self.refused("story ", "skip ", "skip tea", "skip tea ", "skip  none", "wrong ", "wrong tea tea", "wrong  tea",
                     "wrong tea ", " wrong tea", "answer ", "answer watch watch", "answer  watch", "answer watch ",
                     "back ", "back 1 1", "back  1", "back 1 ", "play ", "play  -", "play - ", "skip tea none none",
                     "skip tea none ", "skip tea  none", "skip tea empty empty", "skip none", "skip empty",
                     "skip row :")

    def test_new_lines(self):
        self.refused("story scene a\n", "story scene a\nshow x", "story\nscene a", "\nstory scene a", "skip tea none\n",
                     "skip tea\nnone", "skip tea row :\nrow :", "skip tea row :\n", "wrong tea\n", "wrong\ntea",
                     "answer watch\n", "back 0\n", "play -\n", "play a=1\nb=1", "play\n-", "story scene a/\nshow x")

    def test_texts_that_are_none(self):
        for text in ["", "scene", "scene a/", "/scene a", "scene a//show x", "a", "scene A", "scene a/set a 01",
                     "scene a/scene a", "scene a/play b", "scene a/skip/row a=*..* :", "scene a/if a 1 1/end",
                     " scene a",
                     "scene a ", "scene a /show x", "scene a/ show x", "scene a\\nshow x", "scene a/show x/skip/show y",
                     "scene a" + "/if a 1 1" * 5 + "/show x" + "/else/end" * 5, "scene a" + "/if a 1 1" * 430]:
            self.refused("story " + text)

    def test_rows_that_are_none(self):
        for rows in ["", "row", "None", "none/row :", "empty/row :", "row :/none", "row : /row :", "row :/", "/row :",
                     "row ://row :", "row :/show x", "row :/scene b", "row :/scene b/skip/row :", "row :/skip", "skip",
                     "skip/row :", "scene b", "show x", "row a=*..* :", "row : a+0", "row b=1..1 a=1..1 :", "row : a",
                     "row a=2..1 :", "row  :", "row : a+01", "row :  a+1", "row : a+1 a+1", "row :\\row :", "end"]:
            self.refused("skip tea " + rows, "skip nowhere " + rows, "skip a " + rows)

    def test_names_that_are_none(self):
        for name in ["", "A", "Tea", "abcdefghi", "a1", "tea/", "te-a", "*", "-", "\u00e9", "\u0430", "te\ta"]:
            self.refused("wrong " + name, "answer " + name, f"skip {name} none", f"skip {name} empty",
                         f"skip {name} row :")

    def test_the_order_of_errors(self):
        # NoPlay, and InvalidCommand ahead of it.
        self.run_all(Desk(), ("answer x", NoPlay), ("answer X", InvalidCommand), ("back 1", NoPlay),
                     ("back 01", InvalidCommand),
                     ("back 201", InvalidCommand), ("skip b none", InvalidScene), ("skip b no", InvalidCommand),
                     ("wrong b", InvalidScene), ("wrong B", InvalidCommand), ("wrong a", NoSkip))
        many = "/".join(f"if a {k} {k}/else/end" for k in range(300))
        self.run_all(desk_with(f"story scene a/{many}"), ("wrong a", NoSkip), ("wrong b", InvalidScene),
                     ("skip a empty", "ok"), ("wrong a", TooMany), ("check", TooMany), ("bad", TooMany))

    def test_two_desks(self):
        one, other = Desk(), Desk()
        one.execute("story " + TEA)
        one.execute("play -")
        self.run_all(other, ("show", "scene a"), ("undo", NothingToUndo), ("answer watch", NoPlay),
                     ("play a=1", "ended a=1"), ("story scene b", "ok"))
        self.run_all(one, ("show", TEA), ("answer watch", "choose sit go"), ("undo", "ok"), ("undo", NothingToUndo))
        self.run_all(other, ("show", "scene b"), ("undo", "ok"), ("show", "scene a"))

    def test_large_stories(self):
        story = Story([("s", points(40), [({"a": (1, 2)}, {"b": ("set", 1)})])])
        text = show_story(story).replace("\n", "/")
        self.run_all(Desk(), ("story " + text, "ok"), ("show", text), ("wrong s", "a=1"))


if __name__ == "__main__":
    unittest.main()
