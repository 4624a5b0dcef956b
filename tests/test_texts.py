"""[18]: texts; [2] and [4] for them."""

import unittest

from sceneskips.errors import InvalidText
from sceneskips.notes import Change, Notes
from sceneskips.stories import Story
from sceneskips.texts import read_story, show_story

from tests.brute import Maker, Rule
from tests.test_notes import HUGE
from tests.test_stories import ALL_KINDS, EXAMPLE, NESTED, OBJECTS, deep_both, deep_choose, deep_if

EXAMPLE_TEXT = """scene start
play tea
if met 1 *
show again
else
show hello
end
scene tea
choose
option sit
add met 1
option go
end
skip
row : met+1"""

# The forms of steps, each one on its own in a scene.
STEPS = [
    (("show", "x"), "show x"),
    (("show", "abcdefgh"), "show abcdefgh"),
    (("set", "a", 0), "set a 0"),
    (("set", "a", -HUGE), f"set a -{HUGE}"),
    (("add", "abcdefgh", HUGE), f"add abcdefgh {HUGE}"),
    (("add", "a", 0), "add a 0"),
    (("add", "a", -10), "add a -10"),
    (("need", "a", None, None), "need a * *"),
    (("need", "a", None, -3), "need a * -3"),
    (("need", "a", 0, None), "need a 0 *"),
    (("need", "a", -HUGE, HUGE), f"need a -{HUGE} {HUGE}"),
    (("need", "a", 5, 5), "need a 5 5"),
    (("if", "a", None, None, [], []), "if a * *\nelse\nend"),
    (("if", "a", 1, 20, [("show", "x")], []), "if a 1 20\nshow x\nelse\nend"),
    (("if", "a", -1, None, [], [("show", "x"), ("show", "x")]), "if a -1 *\nelse\nshow x\nshow x\nend"),
    (("if", "a", None, 0, [("if", "b", 0, 0, [], [("show", "x")])], [("if", "c", 1, 1, [], [])]),
     "if a * 0\nif b 0 0\nelse\nshow x\nend\nelse\nif c 1 1\nelse\nend\nend"),
    (("choose", [("x", {}, [])]), "choose\noption x\nend"),
    (("choose", [("y", {}, [("show", "z")]), ("x", {"a": (None, 2)}, []), ("z", {"b": (1, None), "a": (-3, -2)}, [])]),
     "choose\noption y\nshow z\noption x a=*..2\noption z a=-3..-2 b=1..*\nend"),
    (("choose", [("x", {"a": (None, None), "b": (0, 0)}, [("choose", [("x", {}, [("add", "a", 1)])])])]),
     "choose\noption x b=0..0\nchoose\noption x\nadd a 1\nend\nend"),
]

ROWS = [
    ([], ""),
    ([({}, {})], "\nrow :"),
    ([({"a": (None, None)}, {"a": ("add", 0)})], "\nrow :"),
    ([({}, {"a": ("add", 1)}), ({}, {"a": ("add", -1)})], "\nrow : a+1\nrow : a+-1"),
    ([({}, {"a": ("set", 0)}), ({}, {"a": ("set", -7)}), ({}, {"a": ("set", 7)})],
     "\nrow : a:0\nrow : a:-7\nrow : a:7"),
    ([({"b": (1, 2), "a": (None, 0)}, {"c": ("add", HUGE), "b": ("set", -HUGE), "a": ("add", 0)})],
     f"\nrow a=*..0 b=1..2 : b:-{HUGE} c+{HUGE}"),
    ([({"ab": (1, None)}, {}), ({}, {}), ({"b": (-1, -1)}, {"b": ("add", 5)})],
     "\nrow ab=1..* :\nrow :\nrow b=-1..-1 : b+5"),
    ([({"b": (0, 0), "ab": (0, 0), "a": (0, 0)}, {})], "\nrow a=0..0 ab=0..0 b=0..0 :"),
]


class TextTest(unittest.TestCase):

    def check(self, scenes, text):
        story = Story(scenes)
        self.assertEqual(show_story(story), text)
        self.assertEqual(story, Story(scenes))
        self.assertEqual(read_story(text), story)

    def test_the_example(self):
        self.check(EXAMPLE, EXAMPLE_TEXT)

    def test_steps(self):
        for step, text in STEPS:
            self.check([("a", [step], None)], "scene a\n" + text)
        self.check([("a", [step for step, text in STEPS], None)],
                   "\n".join(["scene a"] + [text for step, text in STEPS]))

    def test_scenes(self):
        self.check([("a", [], None)], "scene a")
        self.check([("a", [], []), ("b", [], None), ("c", [("show", "x")], [])],
                   "scene a\nskip\nscene b\nscene c\nshow x\nskip")
        self.check([("a", [("scene", "c"), ("scene", "b"), ("scene", "c")], None), ("b", [], None), ("c", [], [])],
                   "scene a\nplay c\nplay b\nplay c\nscene b\nscene c\nskip")

    def test_rows(self):
        for rows, text in ROWS:
            self.check([("a", [], rows)], "scene a\nskip" + text)
            self.check([("a", [("show", "x")], rows), ("b", [], rows)],
                       f"scene a\nshow x\nskip{text}\nscene b\nskip{text}")

    def test_names_that_are_words_of_the_form(self):
        words = ["end", "else", "option", "row", "skip", "scene", "show", "set", "add", "need", "play", "if", "choose",
                 "watch"]
        for word in words:
            self.check([(word, [("show", word), ("set", word, 1), ("add", word, 1), ("need", word, 1, None),
                                ("if", word, 1, 1, [("show", word)], [("show", word)]),
                                ("choose", [(word, {word: (1, 1)}, [("show", word)])]), ("scene", "zz")], None),
                        ("zz", [], [({word: (0, 0)}, {word: ("set", 1)})])],
                       f"scene {word}\nshow {word}\nset {word} 1\nadd {word} 1\nneed {word} 1 *\nif {word} 1 1\n"
                       f"show {word}\nelse\nshow {word}\nend\nchoose\noption {word} {word}=1..1\nshow {word}\nend\n"
                       f"play zz\nscene zz\nskip\nrow {word}=0..0 : {word}:1")
        self.check([(word, [("show", word)], []) for word in words],
                   "\n".join(f"scene {word}\nshow {word}\nskip" for word in words))

    def test_depth(self):
        deepest = [[("show", "x")], [("if", "a", 0, 0, [], [])], [("choose", [("x", {}, []), ("y", {}, [])])]]
        for steps in [form(5, inner) for form in (deep_if, deep_choose, deep_both) for inner in deepest]:
            story = Story([("a", steps, None)])
            self.assertEqual(read_story(show_story(story)), story)

    def test_small_stories(self):
        for scenes in [ALL_KINDS] + [Maker(first, "abc"[:1 + first % 3], 3).scenes() for first in range(300)]:
            story = Story(scenes)
            text = show_story(story)
            self.assertIs(type(text), str)
            self.assertEqual(read_story(text), story)
            self.assertEqual(show_story(read_story(text)), text)

    def test_the_order_of_entries_does_not_count(self):
        texts = [show_story(Story([("a", [("choose", [("x", {name: (0, 1) for name in order}, [])])],
                                    [({name: (0, 1) for name in order}, {name: ("set", 1) for name in order})])]))
                 for order in ["abc", "cba", "bca"]]
        self.assertEqual(texts, ["scene a\nchoose\noption x a=0..1 b=0..1 c=0..1\nend\nskip\n"
                                 "row a=0..1 b=0..1 c=0..1 : a:1 b:1 c:1"] * 3)

    def test_a_story_that_was_read_is_a_copy(self):
        story = read_story(EXAMPLE_TEXT)
        story.scenes()[0][1].clear()
        self.assertEqual(show_story(story), EXAMPLE_TEXT)
        self.assertEqual(show_story(read_story(EXAMPLE_TEXT).with_skip("tea", None)), EXAMPLE_TEXT[:-17])


class RefusedTest(unittest.TestCase):

    def refused(self, *values):
        for value in values:
            with self.assertRaises(InvalidText, msg=repr(value)[:200]):
                read_story(value)

    def steps(self, *texts):
        self.refused(*["scene a\n" + text for text in texts])

    def rows(self, *texts):
        self.refused(*["scene a\nskip\n" + text for text in texts])

    def test_no_string(self):
        self.refused(None, True, 0, 1, 1.5, b"scene a", ["scene a"], ("scene a",), {"scene a": 1}, Change(),
                     Story(EXAMPLE), EXAMPLE, *NESTED, *OBJECTS)

    def test_the_form_of_lines(self):
        self.refused("", " ", "\n", "a", "scene", "scene ", "skip", "row :", "show x", "end", "scene a\n", "\nscene a",
                     "scene a\n\nscene b", "scene a\n\n", " scene a", "scene a ", "scene  a", "scene a b", "scenea",
                     "Scene a", "scene\na", "scene\ta", "scene a\r", "scene a\r\nshow x", "scene a\x0bshow x",
                     "scene a\x0cshow x", "scene a\u2028show x", "scene a\x85show x", "scene a\x00", "scene\u00a0a",
                     "scene a\n \nshow x", "scene a/show x", "\ufeffscene a", "scene a\\nshow x")
        self.steps("show x ", " show x", "show  x", "show\tx", "show x\n", "\nshow x", "show x\r", "SHOW x", "show",
                   "show ", "show x y", "show\nx", "shows x")

    def test_names(self):
        for name in ["", "A", "aB", "abcdefghi", "a1", "1", "a_", "-", "*", "\u00e9", "\u0430", "\uff41", "a.b",
                     "a\u0301"]:
            self.refused(f"scene {name}")
            self.steps(f"show {name}", f"set {name} 1", f"add {name} 1", f"need {name} 1 1",
                       f"play {name}\nscene {name}",
                       f"if {name} 1 1\nelse\nend", f"choose\noption {name}\nend", f"choose\noption x {name}=1..1\nend")
            self.rows(f"row {name}=1..1 :", f"row : {name}+1", f"row : {name}:1")

    def test_integers(self):
        for k in ["", "-", "-0", "+1", "00", "01", "-01", "1.0", "1e3", "1_0", "0x1", " 1", "1 ", "--1", "1-", "a", "*",
                  "None", "\u0661", "\u00b2", "\uff11", "\u22121"]:
            self.steps(f"set a {k}", f"add a {k}")
            self.rows(f"row : a+{k}", f"row : a:{k}")
            if k != "*":
                self.steps(f"need a {k} *", f"need a * {k}", f"if a {k} *\nelse\nend", f"if a * {k}\nelse\nend",
                           f"choose\noption x a={k}..*\nend", f"choose\noption x a=*..{k}\nend")
                self.rows(f"row a={k}..* :", f"row a=*..{k} :")

    def test_the_number_of_words(self):
        self.steps("set a", "set", "set a 1 2", "add a", "add a 1 *", "need a", "need a 1", "need a 1 2 3", "need",
                   "play", "play b c\nscene b", "if a 1\nelse\nend", "if a\nelse\nend", "if a 1 1 1\nelse\nend",
                   "if\nelse\nend", "choose x\noption x\nend", "choose\noption\nend", "choose\noption x y\nend",
                   "choose\noption x\nend x", "if a 1 1\nelse x\nend", "if a 1 1\nelse\nend a", "skip x", "skip\nrow",
                   "skip\nrow : a", "skip\nrow a :", "set a 1\nscene b c")

    def test_limits(self):
        for limits in ["a=*..*", "a=2..1", "a=1", "a=1..", "a=..1", "a=..", "a=", "a", "=1..2", "a=1.2", "a=1...2",
                       "a=1..2..3", "a==1..2", "a:1..2", "a=1-2", "a=**..1", "a=1..2 ", " a=1..2", "a=1..2  b=1..2",
                       "b=1..2 a=1..2", "a=1..2 a=1..2", "a=1..2 a=3..4", "b=0..0 ab=0..0", "a=1..2,b=1..2",
                       "a=1..2 b=*..*", "a = 1..2", "a=1 ..2"]:
            self.steps(f"choose\noption x {limits}\nend")
            self.rows(f"row {limits} :")
        self.steps("need a 2 1", "if a 2 1\nelse\nend", "if a 0 -1\nelse\nend", "need a 1..2", "need a=1..2")

    def test_parts(self):
        for parts in ["a+0", "a", "a+", "a:", "+1", ":1", "a=1", "a-1", "a+1 ", " a+1", "a+1  b+1", "b+1 a+1",
                      "a+1 a+1",
                      "a+1 a:1", "a:1 a+1", "a:+1", "a+:1", "a++1", "a::1", "a+1+1", "a:1:1", "a+-0", "a:-0", "a + 1",
                      "a+1 b+0", "a+1,b+1", ":"]:
            self.rows(f"row : {parts}")
        self.rows("row", "row ", "row:", "row : ", "row  :", "row a=1..2", "row a=1..2: a+1", "row a=1..2 a+1",
                  "row a+1",
                  "row ::", "row : :", "row : a+1 :", "Row :", "row :\nrow", "row :\nshow x", "row :\n\nrow :")

    def test_ifs_and_choices(self):
        self.steps("if a 1 1", "if a 1 1\nend", "if a 1 1\nelse", "if a 1 1\nelse\nelse\nend",
                   "if a 1 1\nelse\nend\nend",
                   "else", "end", "if a 1 1\nend\nelse", "if a 1 1\nshow x\nend", "else\nend", "choose", "choose\nend",
                   "choose\noption x", "choose\noption x\nend\nend", "choose\nshow x\nend",
                   "choose\nshow x\noption x\nend",
                   "choose\noption x\nelse\nend", "choose\noption x\noption x\nend",
                   "choose\noption x a=1..1\nshow y\noption x\nend", "option x", "option x\nend", "show x\noption x",
                   "if a 1 1\noption x\nelse\nend", "choose\noption x\nif a 1 1\nend\nend",
                   "if a 1 1\nchoose\noption x\nelse\nend\nend", "choose\noption x\nscene b\nend",
                   "if a 1 1\nscene b\nelse\nend", "if a 1 1\nskip\nelse\nend", "if a 1 1\nelse\nskip\nend",
                   "choose\noption x\nskip\nend", "choose\noption x\nrow :\nend")

    def test_scenes(self):
        self.refused("scene a\nscene a", "scene a\nscene b\nscene a", "scene a\nplay a", "scene a\nplay b",
                     "scene a\nscene b\nplay a", "scene a\nscene b\nplay b", "scene a\nplay c\nscene b",
                     "scene a\nif a 1 1\nplay b\nelse\nend", "scene a\nchoose\noption x\nplay a\nend\nscene b")
        self.refused("scene a\nrow :", "scene a\nskip\nskip", "scene a\nskip\nrow :\nskip", "scene a\nskip\nshow x",
                     "scene a\nskip\nrow :\nshow x", "scene a\nrow :\nskip", "scene a\nskip\nend",
                     "scene a\nskip\nplay b\n"
                     "scene b", "scene a\nskip\nrow :\nif a 1 1\nelse\nend", "scene a\nshow x\nrow :",
                     "scene skip\nrow :")

    def test_steps_that_are_too_deep(self):
        for many in [6, 7, 50, 300]:
            first, last = "if a 1 1\n" * (many - 1), "\nelse\nend" * (many - 1)
            self.steps(first + "show x" + last)
            self.steps("if a 1 1\nelse\n" * (many - 1) + "show x" + "\nend" * (many - 1))
            self.steps("choose\noption x\n" * (many - 1) + "show x" + "\nend" * (many - 1))
            self.steps(first + "if a 1 1\nelse\nend" + last)
        self.steps("if a 1 1\n" * 440, "choose\noption x\n" * 240, "if a 1 1\nelse\n" * 280)
        for text in ["if a 1 1\n", "if a 1 1\nelse\n", "choose\noption x\n"]:
            self.steps(text * 5000, text * 5000 + "end")
        for inner in ["show x", "if a 1 1\nelse\nend", "choose\noption x\nend"]:
            text = "scene a\n" + "if a 1 1\n" * 4 + inner + "\nelse\nend" * 4
            self.assertEqual(show_story(read_story(text)), text)

    def test_changed_texts(self):
        taken, refused = 0, 0
        for first in range(400):
            rule = Rule(first)
            text = show_story(Story(Maker(first, "ab", 3).scenes()))
            for _ in range(5):
                lines, at = text.split("\n"), rule.number(0, text.count("\n"))
                other = rule.number(0, len(lines) - 1)
                change = rule.number(0, 5)
                if change == 0:
                    del lines[at]
                elif change == 1:
                    lines.insert(at, lines[other])
                elif change == 2:
                    lines[at], lines[other] = lines[other], lines[at]
                else:
                    place = rule.number(0, len(lines[at]))
                    put = rule.pick([" ", "0", "1", "-", "*", "a", ".", ":", "+", "="])
                    lines[at] = lines[at][:place] + put + lines[at][place + (change == 3):]
                changed = "\n".join(lines)
                try:
                    self.assertEqual(show_story(read_story(changed)), changed)
                    taken += 1
                except InvalidText:
                    refused += 1
        self.assertGreater(taken, 200)
        self.assertGreater(refused, 500)

    def test_a_text_with_many_digits(self):
        long = "9" * 900
        self.assertEqual(show_story(read_story(f"scene a\nset a {long}")), f"scene a\nset a {long}")


if __name__ == "__main__":
    unittest.main()
