"""[7]: patterns and the least notes outside of a list of patterns; [2] for patterns."""

import itertools
import random
import unittest

from sceneskips.errors import NoCommon
from sceneskips.notes import Change, Notes
from sceneskips.patterns import Pattern, least_outside
from sceneskips.spans import within

from tests.test_notes import HUGE, LONG, grid

RANGES = [(None, None), (None, -1), (None, 0), (None, 2), (-2, None), (1, None), (-1, 1), (0, 0), (1, 2), (-2, -2)]


def notes_of(names, reach):
    """All notes that have integers from -reach to reach at the names."""
    return [Notes(values) for values in grid(names, range(-reach, reach + 1))]


def patterns_of(first, second):
    """All patterns with limits from RANGES at the two names."""
    return [Pattern({first: one, second: other}) for one, other in itertools.product(RANGES, RANGES)]


def first_of(found):
    """The least of a list of notes, by the order alone; None of none."""
    least = None
    for notes in found:
        if least is None or notes < least:
            least = notes
    return least


class PatternTest(unittest.TestCase):

    def test_no_limits(self):
        for pattern in [Pattern(), Pattern(None), Pattern({}), Pattern({"a": (None, None)})]:
            self.assertEqual(pattern.limits(), [])
            self.assertEqual(pattern, Pattern())
            for notes in [Notes(), Notes({"a": HUGE, "b": -HUGE})]:
                self.assertTrue(notes in pattern)

    def test_limits(self):
        pattern = Pattern({"b": (None, -2), LONG: (3, 3), "a": (-HUGE, HUGE), "c": (None, None), "ab": (0, None)})
        self.assertEqual(pattern.limits(), [("a", -HUGE, HUGE), ("ab", 0, None), (LONG, 3, 3), ("b", None, -2)])

    def test_within(self):
        for low, high in [(2, 5), (-5, -2), (-2, 2), (0, 0), (3, 3), (-3, -3), (HUGE, HUGE + 2), (1, 1 + HUGE)]:
            for pattern, low_holds, high_holds in [(Pattern({"a": (low, high)}), True, True),
                                                   (Pattern({"a": (low, None)}), True, False),
                                                   (Pattern({"a": (None, high)}), False, True)]:
                for k in [low, high]:
                    self.assertTrue(Notes({"a": k}) in pattern)
                    self.assertTrue(Notes({"a": k, "b": 9, "c": -9}) in pattern)
                for k in [low - 1, low - HUGE]:
                    self.assertEqual(Notes({"a": k}) in pattern, not low_holds)
                for k in [high + 1, high + 10 * HUGE]:
                    self.assertEqual(Notes({"a": k}) in pattern, not high_holds)
        self.assertTrue(within(0, 0, 0))
        self.assertFalse(within(1, 0, 0))

    def test_notes_that_are_0(self):
        self.assertFalse(Notes() in Pattern({"a": (1, None)}))
        self.assertFalse(Notes({"b": 1}) in Pattern({"a": (None, -1)}))
        self.assertTrue(Notes({"b": 1}) in Pattern({"a": (0, 0)}))

    def test_every_limit_counts(self):
        pattern = Pattern({"a": (1, 2), "b": (None, 0), "c": (5, None)})
        self.assertTrue(Notes({"a": 1, "b": 0, "c": 5}) in pattern)
        for name, k in [("a", 0), ("a", 3), ("b", 1), ("c", 4)]:
            notes = Notes({"a": 1, "b": 0, "c": 5})
            notes[name] = k
            self.assertFalse(notes in pattern)

    def test_equality(self):
        self.assertTrue(Pattern({"a": (1, 2), "b": (None, 0)}) == Pattern({"b": (None, 0), "a": (1, 2)}))
        self.assertTrue(Pattern({"a": (1, 2), "b": (None, None)}) == Pattern({"a": (1, 2)}))
        for other in [Pattern(), Pattern({"a": (1, 3)}), Pattern({"a": (0, 2)}), Pattern({"a": (None, 2)}),
                      Pattern({"a": (1, None)}), Pattern({"b": (1, 2)}), Pattern({"a": (1, 2), "b": (0, 0)})]:
            self.assertFalse(Pattern({"a": (1, 2)}) == other)
            self.assertTrue(Pattern({"a": (1, 2)}) != other)

    def test_equality_with_other_kinds(self):
        for other in [None, 0, "", [], {}, {"a": (1, 2)}, [("a", 1, 2)], Notes(), Change(), Notes({"a": 1})]:
            for pattern in [Pattern(), Pattern({"a": (1, 2)})]:
                self.assertFalse(pattern == other)
                self.assertFalse(other == pattern)

    def test_what_was_passed_may_change(self):
        limits = {"a": (1, 2)}
        pattern = Pattern(limits)
        limits["a"] = (5, 6)
        limits["b"] = (7, 8)
        self.assertEqual(pattern.limits(), [("a", 1, 2)])
        self.assertEqual(limits, {"a": (5, 6), "b": (7, 8)})

    def test_what_was_returned_may_change(self):
        pattern = Pattern({"a": (1, 2)})
        pattern.limits().clear()
        self.assertEqual(pattern.limits(), [("a", 1, 2)])
        least = pattern.least()
        least["a"] = 9
        self.assertEqual(pattern.least(), Notes({"a": 1}))
        other = Pattern({"a": (2, 2)})
        (pattern - other).clear()
        self.assertEqual(pattern - other, [Pattern({"a": (1, 1)})])


class CommonTest(unittest.TestCase):

    def check(self, one, other, limits):
        for first, second in [(one, other), (other, one)]:
            self.assertEqual((Pattern(first) & Pattern(second)).limits(), limits)

    def test_common(self):
        self.check({"a": (1, 5)}, {"a": (3, 9)}, [("a", 3, 5)])
        self.check({"a": (1, 5)}, {"a": (2, 3)}, [("a", 2, 3)])
        self.check({"a": (None, 5)}, {"a": (3, None)}, [("a", 3, 5)])
        self.check({"a": (None, 5)}, {"a": (None, 3)}, [("a", None, 3)])
        self.check({"a": (5, None)}, {"a": (3, None)}, [("a", 5, None)])
        self.check({"a": (-1, 0)}, {"a": (0, 1)}, [("a", 0, 0)])
        self.check({"a": (1, 2)}, {"b": (3, 4)}, [("a", 1, 2), ("b", 3, 4)])
        self.check({"a": (1, 2), "c": (None, 0)}, {}, [("a", 1, 2), ("c", None, 0)])
        self.check({}, {}, [])

    def test_limits_that_meet_at_one_integer(self):
        self.check({"a": (None, 4)}, {"a": (4, None)}, [("a", 4, 4)])
        self.check({"a": (-HUGE, 4)}, {"a": (4, HUGE)}, [("a", 4, 4)])
        self.check({"a": (None, -HUGE)}, {"a": (-HUGE, None)}, [("a", -HUGE, -HUGE)])

    def test_limits_that_are_just_apart(self):
        for one, other in [({"a": (None, 3)}, {"a": (4, None)}), ({"a": (0, 0)}, {"a": (1, 1)}),
                           ({"a": (-1, -1), "b": (1, 2)}, {"a": (0, 0), "b": (1, 2)}),
                           ({"a": (1, 2), "b": (None, -1)}, {"a": (1, 2), "b": (0, None)}),
                           ({"a": (1, 1)}, {"a": (HUGE, HUGE)})]:
            for first, second in [(one, other), (other, one)]:
                left, right = Pattern(first), Pattern(second)
                with self.assertRaises(NoCommon):
                    left & right
                self.assertEqual(left, Pattern(first))
                self.assertEqual(right, Pattern(second))

    def test_exactly_the_notes_in_both(self):
        every = notes_of(["a", "b"], 4)
        for one, other in itertools.product(patterns_of("a", "b"), patterns_of("b", "a")[::7]):
            both = [notes for notes in every if notes in one and notes in other]
            try:
                common = one & other
            except NoCommon:
                self.assertEqual(both, [])
            else:
                self.assertEqual(common, other & one)
                self.assertEqual([notes for notes in every if notes in common], both)
                self.assertNotEqual(both, [])

    def test_operands_stay(self):
        one, other = Pattern({"a": (1, 5)}), Pattern({"a": (3, 9), "b": (0, 1)})
        same = one
        one & other
        one <= other
        one - other
        one &= other
        self.assertEqual(same.limits(), [("a", 1, 5)])
        self.assertEqual(other.limits(), [("a", 3, 9), ("b", 0, 1)])


class InsideTest(unittest.TestCase):

    def test_inside_itself_and_no_limits(self):
        for limits in [{}, {"a": (1, 1)}, {"a": (None, 3), "b": (-HUGE, None)}, {LONG: (-2, HUGE)}]:
            pattern = Pattern(limits)
            self.assertTrue(pattern <= pattern)
            self.assertTrue(pattern <= Pattern(dict(limits)))
            self.assertTrue(pattern <= Pattern())
            self.assertEqual(Pattern() <= pattern, limits == {})

    def test_single_limits(self):
        for one, other, inside in [
            ((2, 4), (2, 4), True), ((2, 4), (1, 5), True), ((2, 4), (3, 4), False), ((2, 4), (2, 3), False),
            ((2, 4), (None, 4), True), ((2, 4), (2, None), True), ((2, 4), (None, 3), False),
            ((2, 4), (3, None), False), ((None, 4), (None, 4), True), ((None, 4), (None, 5), True),
            ((None, 4), (None, 3), False), ((None, 4), (-HUGE, 4), False), ((2, None), (2, None), True),
            ((2, None), (1, None), True), ((2, None), (3, None), False), ((2, None), (2, HUGE), False),
            ((None, None), (None, 4), False), ((None, None), (2, None), False), ((None, 4), (5, None), False),
            ((2, 2), (2, 2), True), ((2, 2), (3, 3), False), ((-3, -2), (-3, -2), True), ((-3, -2), (-2, 0), False),
        ]:
            with self.subTest(one=one, other=other):
                self.assertIs(Pattern({"a": one}) <= Pattern({"a": other}), inside)
                self.assertIs(Pattern({"a": one, "c": (0, 1)}) <= Pattern({"a": other}), inside)
                self.assertIs(Pattern({"a": one, "c": (0, 1)}) <= Pattern({"a": other, "c": (0, 1)}), inside)
                self.assertIs(Pattern({"a": one}) <= Pattern({"a": other, "c": (0, 1)}), False)

    def test_exactly_if_all_notes_are_inside(self):
        every = notes_of(["a", "b"], 4)
        for one, other in itertools.product(patterns_of("a", "b"), patterns_of("b", "a")[::7]):
            inside = all(notes in other for notes in every if notes in one)
            self.assertIs(one <= other, inside, (one.limits(), other.limits()))


class LessTest(unittest.TestCase):

    def check(self, one, other, every):
        pieces = one - other
        self.assertIs(type(pieces), list)
        self.assertEqual(pieces == [], one <= other)
        self.assertEqual(pieces, one - other)
        for notes in every:
            wanted = 1 if notes in one and notes not in other else 0
            self.assertEqual(len([piece for piece in pieces if notes in piece]), wanted,
                             (one.limits(), other.limits(), notes.pairs()))
        for first, second in itertools.combinations(pieces, 2):
            with self.assertRaises(NoCommon):
                first & second

    def test_empty(self):
        for one, other in [({}, {}), ({"a": (1, 2)}, {}), ({"a": (1, 2)}, {"a": (1, 2)}),
                           ({"a": (1, 2), "b": (0, 0)}, {"a": (0, None)})]:
            self.assertEqual(Pattern(one) - Pattern(other), [])

    def test_nothing_in_common(self):
        one, other = Pattern({"a": (1, 5), "b": (0, 9)}), Pattern({"a": (2, 3), "b": (10, None)})
        self.assertEqual(one - other, [one])
        self.assertEqual(other - one, [other])

    def test_one_note_in_common(self):
        self.check(Pattern({"a": (-3, 0)}), Pattern({"a": (0, 3)}), notes_of(["a", "b"], 5))
        self.assertEqual(Pattern({"a": (-3, 0)}) - Pattern({"a": (0, 3)}), [Pattern({"a": (-3, -1)})])

    def test_two_names(self):
        every = notes_of(["a", "b"], 4)
        for one, other in itertools.product(patterns_of("a", "b"), patterns_of("b", "a")[::9]):
            self.check(one, other, every)

    def test_names_of_one_of_both(self):
        every = notes_of(["a", "b", "c"], 3)
        for one, other in itertools.product(patterns_of("a", "b")[::3], patterns_of("b", "c")[::9]):
            self.check(one, other, every)

    def test_huge_limits(self):
        one = Pattern({"a": (-HUGE, HUGE), "b": (HUGE, None)})
        other = Pattern({"a": (-HUGE + 1, HUGE - 1), "b": (None, HUGE + 5)})
        every = [Notes({"a": k, "b": m}) for k in [-HUGE - 1, -HUGE, -HUGE + 1, 0, HUGE - 1, HUGE, HUGE + 1]
                 for m in [-HUGE, 0, HUGE - 1, HUGE, HUGE + 5, HUGE + 6, HUGE * HUGE]]
        self.check(one, other, every)
        self.check(other, one, every)

    def test_eight_names(self):
        names = "abcdefgh"
        one = Pattern({name: (-1, 1) for name in names})
        other = Pattern({name: (0, None) if name in "aceg" else (None, 0) for name in names})
        self.check(one, other, [Notes(values) for values in grid(names, [-1, 0, 1])])

    def test_the_same_call_returns_the_same(self):
        one = {"a": (-9, 9), "b": (-9, 9), "c": (-9, 9)}
        other = {"c": (-1, 1), "a": (-2, 2), "b": (-3, 3)}
        first = [piece.limits() for piece in Pattern(one) - Pattern(other)]
        for order in itertools.permutations("abc"):
            for turn in itertools.permutations("abc"):
                again = Pattern({name: one[name] for name in order}) - Pattern({name: other[name] for name in turn})
                self.assertEqual([piece.limits() for piece in again], first)


class LeastTest(unittest.TestCase):

    def test_least(self):
        for limits, least in [
            ((None, None), 0), ((-3, 3), 0), ((-3, 2), 0), ((0, 5), 0), ((-5, 0), 0), ((0, 0), 0), ((None, 4), 0),
            ((-4, None), 0), ((2, 5), 2), ((2, None), 2), ((2, 2), 2), ((-5, -2), -2), ((None, -2), -2),
            ((-2, -2), -2), ((HUGE, None), HUGE), ((None, -HUGE), -HUGE), ((1, HUGE), 1), ((-HUGE, HUGE), 0),
        ]:
            with self.subTest(limits=limits):
                self.assertEqual(Pattern({"a": limits}).least(), Notes({"a": least}))

    def test_several_names(self):
        pattern = Pattern({"a": (-2, 2), "b": (3, None), LONG: (None, -4), "d": (-1, -1)})
        self.assertEqual(pattern.least().pairs(), [(LONG, -4), ("b", 3), ("d", -1)])

    def test_the_first_in_the_order(self):
        every = notes_of(["a", "b"], 4)
        for pattern in patterns_of("a", "b"):
            least = pattern.least()
            self.assertTrue(least in pattern)
            self.assertEqual(least, first_of([notes for notes in every if notes in pattern]))


class BeforeTest(unittest.TestCase):

    def test_before(self):
        for limits, parts, before in [
            ({"a": (1, 5)}, {}, {"a": (1, 5)}),
            ({"a": (1, 5)}, {"a": ("add", 0)}, {"a": (1, 5)}),
            ({"a": (1, 5)}, {"a": ("add", 2)}, {"a": (-1, 3)}),
            ({"a": (1, 5)}, {"a": ("add", -2)}, {"a": (3, 7)}),
            ({"a": (None, 5)}, {"a": ("add", HUGE)}, {"a": (None, 5 - HUGE)}),
            ({"a": (1, None)}, {"a": ("add", HUGE)}, {"a": (1 - HUGE, None)}),
            ({"a": (1, 5), "b": (0, 0)}, {"a": ("set", 1)}, {"b": (0, 0)}),
            ({"a": (1, 5), "b": (0, 0)}, {"a": ("set", 5)}, {"b": (0, 0)}),
            ({"a": (1, 5)}, {"b": ("set", 9), "c": ("add", 9)}, {"a": (1, 5)}),
            ({}, {"a": ("set", 9), "c": ("add", 9)}, {}),
            ({"a": (0, None), "b": (2, 3)}, {"a": ("set", 0), "b": ("add", 2)}, {"b": (0, 1)}),
        ]:
            with self.subTest(limits=limits, parts=parts):
                pattern, change = Pattern(limits), Change(parts)
                self.assertEqual(pattern.before(change), Pattern(before))
                self.assertEqual(pattern, Pattern(limits))
                self.assertEqual(change, Change(parts))

    def test_set_outside(self):
        for limits, parts in [({"a": (1, 5)}, {"a": ("set", 0)}), ({"a": (1, 5)}, {"a": ("set", 6)}),
                              ({"a": (None, 5)}, {"a": ("set", HUGE)}), ({"a": (1, None)}, {"a": ("set", -HUGE)}),
                              ({"a": (1, 5), "b": (0, 0)}, {"a": ("set", 1), "b": ("set", 1)})]:
            pattern = Pattern(limits)
            with self.assertRaises(NoCommon):
                pattern.before(Change(parts))
            self.assertEqual(pattern, Pattern(limits))

    def test_exactly_the_notes_that_are_led_into_it(self):
        every = notes_of(["a", "b"], 4)
        parts = [("add", 0), ("add", 1), ("add", -2), ("set", 0), ("set", 2), ("set", -1)]
        for one, other in itertools.product(parts, parts):
            change = Change({"a": one, "b": other})
            for pattern in patterns_of("a", "b")[::3]:
                led = [notes for notes in every if change(notes) in pattern]
                try:
                    before = pattern.before(change)
                except NoCommon:
                    self.assertEqual(led, [])
                else:
                    self.assertEqual([notes for notes in every if notes in before], led)


class LeastOutsideTest(unittest.TestCase):

    def check(self, pattern, patterns, wanted):
        rows = [Pattern(limits) for limits in patterns]
        found = least_outside(Pattern(pattern), rows)
        self.assertEqual(found, None if wanted is None else Notes(wanted))
        self.assertEqual(rows, [Pattern(limits) for limits in patterns])
        self.assertEqual(least_outside(Pattern(pattern), rows[::-1]), found)

    def test_no_patterns(self):
        self.check({}, [], {})
        self.check({"a": (2, 5), "b": (None, -3)}, [], {"a": 2, "b": -3})

    def test_all_notes_are_covered(self):
        self.check({}, [{}], None)
        self.check({"a": (1, 2)}, [{}], None)
        self.check({"a": (1, 2)}, [{"a": (1, 2)}], None)
        self.check({"a": (1, 2), "b": (0, 0)}, [{"a": (0, None)}], None)
        self.check({}, [{"a": (None, -1)}, {"a": (0, None)}], None)
        self.check({"a": (-2, 2)}, [{"a": (-2, -1)}, {"a": (0, 0)}, {"a": (1, 2)}], None)
        self.check({}, [{"a": (None, -1)}, {"a": (1, None)}, {"b": (None, 0)}, {"b": (1, None), "a": (0, 0)}], None)

    def test_gaps_of_one_integer(self):
        self.check({}, [{"a": (None, 4)}, {"a": (6, None)}], {"a": 5})
        self.check({}, [{"a": (None, -6)}, {"a": (-4, None)}], {"a": -5})
        self.check({}, [{"a": (None, -1)}, {"a": (1, None)}], {})
        self.check({"a": (0, 9), "b": (0, 9)}, [{"a": (0, 6)}, {"a": (8, 9)}, {"b": (0, 2)}, {"b": (4, None)}],
                   {"a": 7, "b": 3})
        self.check({}, [{"a": (None, HUGE - 1)}, {"a": (HUGE + 1, None)}], {"a": HUGE})

    def test_patterns_beside_the_pattern(self):
        self.check({"a": (1, 2)}, [{"a": (3, None)}, {"a": (None, 0)}], {"a": 1})
        self.check({"a": (1, 2), "b": (1, 2)}, [{"a": (1, 2), "b": (3, 4)}], {"a": 1, "b": 1})

    def test_both_sides_are_equally_near(self):
        self.check({}, [{"a": (-3, 3)}], {"a": 4})
        self.check({}, [{"a": (-3, 4)}], {"a": -4})
        self.check({"a": (None, 3)}, [{"a": (-3, 3)}], {"a": -4})
        self.check({}, [{"a": (-3, 3), "b": (-3, 3)}], {"b": 4})
        self.check({}, [{"a": (-2, 3), "b": (-3, 3)}], {"a": -3})

    def test_integers_beside_limits_of_the_list(self):
        self.check({"a": (-9, 9), "b": (-9, 9)}, [{"a": (None, 2)}, {"b": (-4, None)}], {"a": 3, "b": -5})
        # The least sum is not where the first name is nearest to 0.
        self.check({}, [{"a": (-1, 1), "b": (-7, 7)}, {"a": (-4, 4), "b": (-3, 3)}, {"a": (0, 0)}], {"a": 5})
        self.check({}, [{"a": (-1, 1), "b": (-7, 7)}, {"a": (-4, 4), "b": (-2, 2)}, {"a": (0, 0)}],
                   {"a": 2, "b": 3})
        self.check({}, [{"a": (-1, 1), "b": (-3, 3)}, {"a": (-9, 9), "b": (0, 0)}], {"a": 2, "b": 1})
        self.check({"a": (2, None)}, [{"a": (2, 5), "b": (0, 3)}, {"b": (-2, -1)}, {"a": (3, 3)}], {"a": 2, "b": -3})

    def test_names_without_limits_of_the_pattern(self):
        self.check({"a": (3, 4)}, [{"b": (-1, 1)}, {"c": (0, None)}], {"a": 3, "b": 2, "c": -1})

    def test_like_looking_at_all_notes(self):
        rng = random.Random(7)
        names = ["a", "b", "c"]
        every = notes_of(names, 4)
        box = Pattern({name: (-4, 4) for name in names})
        nothing = 0
        for _ in range(120):
            rows = []
            for _ in range(rng.randint(0, 10)):
                limits = {}
                for name in rng.sample(names, rng.randint(1, 2)):
                    low = rng.randint(-4, 3)
                    limits[name] = rng.choice([(None, low), (low, None), (low, rng.randint(low, 4)), (-3, 3)])
                rows.append(Pattern(limits))
            pattern = box & rng.choice([Pattern(), Pattern({"a": (1, None)}), Pattern({"b": (None, -1)})])
            left = [notes for notes in every if notes in pattern and not any(notes in row for row in rows)]
            wanted = first_of(left)
            self.assertEqual(least_outside(pattern, rows), wanted)
            nothing += wanted is None
        self.assertGreater(nothing, 5)
        self.assertLess(nothing, 115)

    def cells(self, rng, names, many):
        """Patterns that together are all notes, without common ones."""
        cells = [Pattern()]
        while len(cells) < many:
            cell = cells.pop(rng.randrange(len(cells)))
            cut = Pattern({rng.choice(names): (rng.randint(-9, 9), None)})
            try:
                cells += [cell & cut] + (cell - cut)
            except NoCommon:
                cells.append(cell)
        return cells[:many] if len(cells) == many else self.cells(rng, names, many)

    def test_sixty_patterns(self):
        rng = random.Random(11)
        for names in ["a", "ab", "abcd", "abcdefgh"]:
            cells = self.cells(rng, names, 60 if len(names) > 1 else 15)
            self.assertIs(least_outside(Pattern(), cells), None)
            for at in range(0, len(cells), 4):
                others = cells[:at] + cells[at + 1:]
                self.assertEqual(least_outside(Pattern(), others), cells[at].least())

    def test_sixty_patterns_around_0(self):
        names = "abcdefgh"
        rows = [Pattern({name: (-((at * step) % 61), (at * step) % 61) for step, name in enumerate(names, 3)})
                for at in range(1, 61)]
        found = least_outside(Pattern(), rows)
        self.assertFalse(any(found in row for row in rows))
        # Whatever is taken back by one is in some pattern.
        for name, k in found.pairs():
            notes = found + Change({name: ("add", -1 if k > 0 else 1)})
            self.assertTrue(any(notes in row for row in rows))

    def test_result_is_a_new_object(self):
        pattern, rows = Pattern({"a": (1, 9)}), [Pattern({"a": (1, 3)})]
        found = least_outside(pattern, rows)
        found["a"] = 8
        self.assertEqual(least_outside(pattern, rows), Notes({"a": 4}))
        self.assertEqual(pattern.limits(), [("a", 1, 9)])


if __name__ == "__main__":
    unittest.main()
