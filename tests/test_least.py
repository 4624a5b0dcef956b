"""[16]: right skips with the fewest rows; [2] and [4] for them, [5] (e)."""

import itertools
import unittest

from sceneskips.checks import is_table, loose_notes, table, wrong_notes
from sceneskips.errors import InvalidScene, NotExact, TooMany, TooWide
from sceneskips.least import fewest_rows
from sceneskips.notes import Notes
from sceneskips.stories import Story
from sceneskips.strokes import fewest_strokes

from tests.brute import Looker, Maker, Rule, not_zero, plain, skipped
from tests.test_checks import options
from tests.test_notes import HUGE
from tests.test_plays import one_scene
from tests.test_stories import EXAMPLE
from tests.test_ways import choice, points

NAMES = ["s", "sa", "sb", "sc", "sd", "se", "sf", "sg", "sh", "si", "sj", "sk"]


def pieces_story(*pieces):
    """A story whose first scene does to the note n what the pieces (high, kind, k) tell; the last high is None."""
    scenes = []
    for at, (high, kind, k) in enumerate(pieces):
        steps = [(kind, "n", k)]
        if high is not None:
            steps = [("if", "n", None, high, steps, [("scene", NAMES[at + 1])])]
        scenes.append((NAMES[at], steps, None))
    return Story(scenes)


def left_by(pieces, n):
    high, kind, k = [piece for piece in pieces if piece[0] is None or n <= piece[0]][0]
    return k if kind == "set" else n + k


def fewest_by_trial(colours):
    """The number of strokes for cells with these sets of colours, on a ground of ("add", 0).

    Looks at the strip from the end on: what the last stroke paints may be anything below it.
    """
    cells = range(len(colours))
    level, seen, many = [tuple(False for _ in cells)], set(), 0
    while not any(all(state[at] or ("add", 0) in colours[at] for at in cells) for state in level):
        following = []
        for state, colour in itertools.product(level, sorted(set().union(*colours))):
            at = 0
            while at < len(colours):
                end = at
                while end < len(colours) and (state[end] or colour in colours[end]):
                    end += 1
                painted = state[:at] + (True,) * (end - at) + state[end:]
                if painted not in seen:
                    seen.add(painted)
                    following.append(painted)
                at = max(end, at + 1)
        level, many = following, many + 1
    return many


def both_parts(n, left):
    return {("add", left - n), ("set", left)}


class RowsTest(unittest.TestCase):

    def check(self, story, many, scene="s"):
        """Check the rows that are returned, and return them."""
        before = story.scenes()
        rows = fewest_rows(story, scene)
        self.assertEqual(len(rows), many, rows)
        self.assertEqual(story.scenes(), before)
        self.assertIs(type(rows), list)
        skipping = story.with_skip(scene, rows)
        # They are in the form in which a story keeps rows.
        self.assertEqual(skipping.scenes()[story.names().index(scene)][2], rows)
        self.assertIsNone(wrong_notes(skipping, scene))
        self.assertTrue(is_table(skipping, scene, table(skipping, scene)))
        for skip in [None, [], [({}, {"q": ("set", 7)})], rows, rows + [({"n": (3, 9)}, {"n": ("add", 5)}), ({}, {})]]:
            self.assertEqual(fewest_rows(story.with_skip(scene, skip), scene), rows)
        return rows

    def pieces(self, many, *pieces):
        return self.check(pieces_story(*pieces), many)

    def scene(self, many, *steps):
        return self.check(Story([("s", list(steps), None)]), many)

    def test_no_row(self):
        self.assertEqual(self.scene(0), [])
        self.scene(0, ("show", "x"), choice(3), ("show", "y"))
        self.scene(0, ("add", "n", 0))
        self.scene(0, ("add", "n", 4), ("add", "n", -4))
        self.scene(0, ("if", "n", None, None, [("show", "x")], [("add", "n", 1)]))
        self.scene(0, ("if", "n", 3, 3, [("set", "n", 3)], []))
        self.scene(0, ("if", "n", 3, None, [("add", "n", 1), ("add", "n", -1)], [("show", "x")]))
        self.pieces(0, (2, "add", 0), (3, "set", 3), (None, "add", 0))

    def test_one_row(self):
        self.assertEqual(self.scene(1, ("add", "n", 1)), [({}, {"n": ("add", 1)})])
        self.assertEqual(self.scene(1, ("set", "n", 0)), [({}, {"n": ("set", 0)})])
        self.assertEqual(self.scene(1, ("add", "n", -HUGE)), [({}, {"n": ("add", -HUGE)})])
        self.assertEqual(self.pieces(1, (4, "add", 0), (None, "add", 2)), [({"n": (5, None)}, {"n": ("add", 2)})])
        self.assertEqual(self.pieces(1, (4, "set", 7), (None, "add", 0)), [({"n": (None, 4)}, {"n": ("set", 7)})])
        self.assertEqual(self.pieces(1, (-HUGE, "add", 0), (HUGE, "add", 1), (None, "add", 0)),
                         [({"n": (-HUGE + 1, HUGE)}, {"n": ("add", 1)})])
        rows = self.pieces(1, (4, "add", 0), (5, "set", 8), (None, "add", 0))
        self.assertEqual(rows[0][0], {"n": (5, 5)})
        self.scene(1, ("set", "n", 3), ("add", "n", 4), ("if", "n", 7, 7, [("add", "n", 1)], [("set", "n", 9)]))

    def test_two_rows(self):
        self.pieces(2, (4, "add", 1), (None, "add", 2))
        self.pieces(2, (4, "set", 1), (None, "set", 2))
        self.pieces(2, (4, "set", 1), (8, "add", 0), (None, "set", 2))
        self.pieces(2, (4, "set", 1), (8, "add", 0), (None, "set", 1))
        self.pieces(2, (4, "add", 0), (5, "add", 1), (6, "set", 9), (None, "add", 0))

    def test_many_rows(self):
        self.pieces(4, *[(k, "set", 3 * k + 2) for k in range(0, 8, 2)], (None, "add", 0))
        self.pieces(6, *[(10 * k, "add", k + 1) for k in range(5)], (None, "set", 0))
        self.pieces(6, *[(10 * k, "add", k % 2 + 1) for k in range(7)], (200, "set", 500), (None, "set", 800))

    def test_later_rows_behind_earlier_ones(self):
        self.assertEqual(self.pieces(2, (-1, "set", 3), (5, "add", 1), (None, "set", 3)),
                         [({"n": (0, 5)}, {"n": ("add", 1)}), ({}, {"n": ("set", 3)})])
        # A row without parts, so that a later one does nothing there.
        self.assertEqual(self.pieces(2, (-1, "set", 3), (6, "add", 0), (None, "set", 3)),
                         [({"n": (0, 6)}, {}), ({}, {"n": ("set", 3)})])
        self.pieces(3, (0, "add", 0), (3, "add", 1), (6, "add", 2), (9, "add", 3), (12, "add", 2), (15, "add", 1),
                    (None, "add", 0))
        self.pieces(4, (0, "add", 1), (3, "add", 2), (6, "add", 1), (9, "add", 3), (12, "add", 1), (15, "add", 2),
                    (None, "add", 1))
        # These cross: either of them can be behind the other one, not both.
        self.pieces(3, (0, "add", 0), (3, "add", 1), (6, "add", 2), (9, "add", 1), (12, "add", 2), (None, "add", 0))
        self.pieces(4, (0, "add", 0), (3, "add", 1), (6, "add", 2), (9, "add", 3), (12, "add", 1), (15, "add", 2),
                    (None, "add", 0))

    def test_the_ground_is_a_row_behind_all_others(self):
        self.pieces(2, (3, "add", 1), (6, "add", 0), (9, "add", 1), (None, "add", 0))
        self.pieces(3, (3, "add", 1), (6, "add", 0), (9, "add", 1), (12, "add", 0), (15, "add", 1), (None, "add", 0))

    def test_sets_and_adds_that_leave_the_same_at_one_integer(self):
        self.pieces(1, (4, "add", 1), (5, "set", 6), (None, "add", 1))
        self.pieces(1, (4, "set", 6), (5, "add", 1), (None, "set", 6))
        self.assertEqual(self.pieces(1, (5, "add", 0), (None, "set", 6)), [({"n": (6, None)}, {"n": ("set", 6)})])
        self.pieces(2, (4, "set", 6), (5, "add", 1), (None, "add", 2))
        self.pieces(2, (4, "set", 6), (5, "add", 1), (9, "add", 2), (None, "set", 6))
        self.pieces(2, (0, "add", 0), (1, "add", 3), (2, "add", 4), (3, "set", 4), (None, "add", 0))
        # Each integer by another row: the set 7, the set 6 and the set 5 reach into the add.
        self.pieces(3, (-5, "set", 7), (-3, "set", 6), (-1, "set", 5), (2, "add", 5), (None, "add", 0))
        self.pieces(4, (-5, "set", 5), (-3, "set", 6), (-1, "set", 7), (2, "add", 5), (None, "add", 0))
        # Likewise, integers of a set by rows that add.
        self.pieces(4, (-9, "add", 0), (-5, "add", 6), (-3, "add", 7), (-1, "add", 8), (2, "set", 8), (None, "set", 50))

    def test_which_ways_lead_there_does_not_count(self):
        self.scene(1, options(("x", [("add", "n", 2)]), ("y", [("add", "n", 1), ("add", "n", 1)])))
        self.scene(2, ("choose", [("x", {"n": (0, None)}, [("add", "n", 1)]),
                                  ("y", {"n": (None, 0)}, [("add", "n", 1)]),
                                  ("z", {"n": (None, -1)}, [("add", "n", 1)])]),
                                  ("if", "n", 5, None, [], [("set", "n", 0)]))
        self.scene(1, ("choose", [("x", {"n": (0, None)}, [("set", "n", 0)]), ("y", {"n": (None, 0)}, [])]))
        story = Story([("s", [("scene", "t"), ("scene", "t")], None),
                       ("t", [("if", "n", 0, None, [("add", "n", 1)], [])], [({}, {"n": ("add", 7)})])])
        self.check(story, 1)
        self.check(story, 1, "t")
        self.check(Story(EXAMPLE[:1] + [("tea", [], [])]), 0, "start")

    def test_three_hundred_runs(self):
        for many, k, wanted in [(299, -10, 299), (250, -1, 2)]:
            story = Story([("s", [("scene", "t")] * many, None),
                           ("t", [("if", "n", 0, None, [("add", "n", k)], [])], None)])
            rows = fewest_rows(story, "s")
            self.assertEqual(len(rows), wanted)
            self.assertIsNone(wrong_notes(story.with_skip("s", rows), "s"))

    def test_results_are_new_objects(self):
        story = pieces_story((-1, "set", 3), (5, "add", 1), (None, "set", 3))
        rows = fewest_rows(story, "s")
        rows[0][0]["n"] = (1, 2)
        rows[0][1].clear()
        rows.pop()
        self.assertEqual(len(self.check(story, 2)), 2)

    def test_the_same_call_returns_the_same(self):
        steps = [("if", "n", 0, 4, [("add", "n", 1)], [("if", "n", 9, 9, [("add", "n", 3)], [("set", "n", 7)])])]
        first = fewest_rows(one_scene(*steps), "a")
        for order in [("m", "n"), ("n", "m")]:
            row = ({name: (0, 1) for name in order}, {name: ("add", 1) for name in order})
            fewest_rows(pieces_story((4, "add", 1), (None, "add", 2)), "s")
            self.assertEqual(repr(fewest_rows(Story([("a", steps, [row])]), "a")), repr(first))


class ErrorsTest(unittest.TestCase):

    def raises(self, error, scenes, scene="s"):
        story = Story(scenes)
        with self.assertRaises(error):
            fewest_rows(story, scene)
        self.assertEqual(story, Story(scenes))

    def test_no_scene_of_this_name(self):
        wide = [("add", "a", 1), ("add", "b", 1)]
        for scenes in [EXAMPLE, [("s", wide, None)], [("s", points(300), None)], [("s", [("need", "a", 0, 0)], None)]]:
            for name in ["", "x", "met", "S"]:
                self.raises(InvalidScene, scenes, name)

    def test_too_wide(self):
        first, second = ("add", "a", 0), [("set", "b", 1), ("add", "b", 0), ("need", "b", 1, None),
                                          ("need", "b", None, None), ("if", "b", None, None, [], []),
                                          ("if", "b", 1, 2, [], []), ("choose", [("x", {"b": (1, None)}, []),
                                                                                 ("y", {}, [])])]
        for step in second:
            self.raises(TooWide, [("s", [first, step], None)])
            self.raises(TooWide, [("s", [step, first], [])])
            self.raises(TooWide, [("s", [first, ("if", "a", 0, 0, [], [step])], None)])
            self.raises(TooWide, [("s", [first, ("if", "a", 0, 0, [step], [])], None)])
            self.raises(TooWide, [("s", [("choose", [("x", {}, [first]), ("y", {}, [step])])], None)])
            # In other scenes, also where no play comes, behind a skip or not.
            for skip in [None, []]:
                self.raises(TooWide, [("s", [first, ("scene", "t")], None), ("t", [step], skip)])
                self.raises(TooWide, [("s", [("scene", "t")], None), ("t", [first, ("scene", "u")], skip),
                                      ("u", [step], skip)])
                self.raises(TooWide, [("s", [("set", "a", 1), ("if", "a", 1, 1, [], [("scene", "t")])], None),
                                      ("t", [step], skip)])
        self.raises(TooWide, [("s", [("choose", [("x", {"a": (1, None), "b": (0, None)}, [])])], None)])

    def test_not_too_wide(self):
        one = [("add", "a", 1)]
        for scenes in [[("s", one + [("choose", [("x", {"b": (None, None)}, [])])], None)],
                       [("s", one, [({"b": (1, 2), "c": (1, 1)}, {"d": ("add", 1)})])],
                       [("s", one + [("scene", "t")], None), ("t", [], [({"b": (1, 2)}, {"c": ("set", 1)})])],
                       [("s", one, None), ("t", [("add", "b", 1)], None)],
                       [("t", [("add", "b", 1), ("scene", "s")], None), ("s", one, None)]]:
            self.assertEqual(fewest_rows(Story(scenes), "s"), [({}, {"a": ("add", 1)})])

    def test_too_many(self):
        self.raises(TooMany, [("s", points(300), None)])
        self.raises(TooMany, [("s", points(300), [({}, {})])])
        self.assertEqual(fewest_rows(Story([("s", points(299), None)]), "s"), [])
        # Runs of watched plays count.
        story = Story([("s", points(200) + [("scene", "t"), ("scene", "t")], None), ("t", [], [])])
        self.assertEqual(fewest_rows(story, "s"), [])
        self.raises(TooMany, [("s", [("scene", "t")], None), ("t", points(300), [])])
        # Not exact either.
        self.raises(TooMany, [("s", points(300) + [("need", "a", 1, 1)], None)])

    def test_not_exact(self):
        for step in [("need", "a", 1, None), options(("x", [("add", "a", 1)]), ("y", [])),
                     ("choose", [("x", {"a": (1, 4)}, [])]), options(("x", [("set", "a", 50)]), ("y", []))]:
            self.raises(NotExact, [("s", [step], None)])
            self.raises(NotExact, [("s", [step], [])])
        self.raises(NotExact, EXAMPLE, "tea")
        self.raises(NotExact, EXAMPLE, "start")

    def test_their_order(self):
        wide = ("add", "b", 1)
        self.raises(TooWide, [("s", points(300) + [wide], None)])
        self.raises(TooWide, [("s", [("need", "a", 1, 1), wide], None)])


class LookTest(unittest.TestCase):

    def test_strips(self):
        for first in range(200):
            rule = Rule(first)
            colours = [("add", 0), ("add", 1), ("set", 2), ("set", 3)][:rule.number(1, 4)]
            cells = [rule.some(colours, rule.number(1, 2)) for _ in range(rule.number(1, 7))]
            strokes = fewest_strokes([[("add", 0)]] + cells)
            shown = [None] * (len(cells) + 1)
            for start, end, colour in strokes[::-1]:
                for at in range(start, end + 1):
                    shown[at] = colour
            self.assertEqual(strokes[-1][::2], (0, ("add", 0)))
            self.assertTrue(all(colour in cell for colour, cell in zip(shown, [[("add", 0)]] + cells)))
            self.assertEqual(len(strokes) - 1, fewest_by_trial([set(cell) for cell in cells]))

    def test_pieces(self):
        counts = {}
        for first in range(260):
            rule = Rule(first)
            reach = rule.number(1, 4)
            low, pieces = rule.number(-6, 0), []
            for _ in range(rule.number(0, 6)):
                low += rule.number(1, 3)
                pieces.append((low, rule.pick(["add", "set"]), rule.number(-reach, reach)))
            pieces.append((None, rule.pick(["add", "set"]), rule.number(-reach, reach)))
            self.count(counts, pieces)
        self.assertTrue(all(counts.get(many, 0) >= 15 for many in [1, 2, 3, 4, 5]), counts)

    def test_pieces_whose_integers_go_with_others(self):
        counts = {}
        for first in range(120):
            rule = Rule(first + 500)
            many = rule.number(2, 3)
            low, pieces = -9, []
            for at in range(rule.number(2, 3)):
                low += rule.number(1, 2)
                pieces.append((low, "set", 5 + rule.number(0, many - 1)))
            pieces.append((low + many, "add", 5 - low - 1))
            for at in range(rule.number(1, 3)):
                low += 2
                pieces.append((low + many, "set", 5 + rule.number(0, many - 1)))
            self.count(counts, pieces[:-1] + [(None,) + pieces[-1][1:]])
        self.assertGreater(len(counts), 3)

    def count(self, counts, pieces):
        story = pieces_story(*pieces)
        rows = fewest_rows(story, "s")
        self.assertIsNone(wrong_notes(story.with_skip("s", rows), "s"))
        inner = range(pieces[0][0] + 1, pieces[-2][0] + 1) if len(pieces) > 1 else range(0)
        colours = [{pieces[0][1:]}] + [both_parts(n, left_by(pieces, n)) for n in inner] + [{pieces[-1][1:]}]
        self.assertEqual(len(rows), fewest_by_trial(colours), pieces)
        counts[len(rows)] = counts.get(len(rows), 0) + 1

    def test_small_stories(self):
        found = {}
        for first in range(2000, 2500):
            story = Story(Maker(first, "n", 1 + first % 3).scenes())
            for scene in story.names():
                try:
                    rows = fewest_rows(story, scene)
                except (NotExact, TooMany) as error:
                    self.assertTrue(isinstance(error, TooMany) or loose_notes(story, scene) is not None)
                    continue
                self.assertIsNone(loose_notes(story, scene))
                self.assertIsNone(wrong_notes(story.with_skip(scene, rows), scene))
                looker = Looker(story.scenes())
                left = {n: [play[3] for play in looker.plays(scene, {"n": n})[0] if play[5]][0].get("n", 0)
                        for n in [-101, -100, *range(-12, 13), 100, 101]}
                colours = [both_parts(-101, left[-101]) & both_parts(-100, left[-100])]
                colours += [both_parts(n, left[n]) for n in range(-12, 13)]
                colours += [both_parts(101, left[101]) & both_parts(100, left[100])]
                self.assertEqual(len(rows), fewest_by_trial(colours))
                found[len(rows)] = found.get(len(rows), 0) + 1
        self.assertTrue(all(found.get(many, 0) > 5 for many in [0, 1, 2]), found)

    def test_no_fewer_rows_whatever_they_name(self):
        parts = [("add", 0), ("add", 1), ("add", 2), ("set", 0), ("set", 2)]
        mine = [(None, None), (None, 0), (1, None), (0, 1), (1, 1), (2, None), (None, 1)]
        theirs = [{}, {"q": (0, None)}, {"q": (1, 1)}]
        rows = [({"n": limits, **other}, {"n": part, **more}) for limits in mine for other in theirs
                for part in parts for more in [{}, {"q": ("add", 1)}, {"q": ("set", 1)}]]
        points = [{"n": n, "q": q} for q in [0, 1, 2] for n in [-7, 0, 1, 2, 9]]
        for pieces in [((0, "add", 1), (None, "add", 2)), ((0, "set", 2), (1, "add", 0), (None, "set", 2)),
                       ((0, "add", 0), (1, "add", 1), (None, "set", 0)), ((1, "set", 0), (None, "add", 1))]:
            self.assertEqual(len(fewest_rows(pieces_story(*pieces), "s")), 2)
            for many in [0, 1]:
                for skip in itertools.product(rows, repeat=many):
                    self.assertFalse(self.is_right(pieces, list(skip), points))
        short = [({"n": limits}, {"n": part}) for limits in mine for part in parts]
        for pieces in [((-1, "add", 1), (0, "set", 2), (1, "add", 1), (None, "add", 2))]:
            self.assertEqual(len(fewest_rows(pieces_story(*pieces), "s")), 3)
            for skip in itertools.product(short, repeat=2):
                self.assertFalse(self.is_right(pieces, list(skip), points))

    def is_right(self, pieces, skip, points):
        return all(not_zero(skipped(skip, notes)[1]) == not_zero({**notes, "n": left_by(pieces, notes["n"])})
                   for notes in points)

    def test_what_is_left(self):
        # The rows do what plays of the scene do.
        pieces = ((-4, "add", 2), (0, "set", 1), (3, "add", 2), (None, "set", -2))
        rows = fewest_rows(pieces_story(*pieces), "s")
        for n in range(-9, 9):
            self.assertEqual(not_zero(skipped(rows, {"n": n})[1]), plain(Notes({"n": left_by(pieces, n)})))


if __name__ == "__main__":
    unittest.main()
