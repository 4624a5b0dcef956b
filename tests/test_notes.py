"""[6]: names, notes, changes and the order of notes; [2] for notes and changes."""

import copy
import itertools
import unittest

from sceneskips.notes import Change, Notes, is_integer, is_name
from sceneskips.patterns import Pattern

HUGE = 10 ** 60 + 7
LONG = "abcdefgh"


def comes_first(one, other):
    """The order as [6] tells it, for dicts from names to integers."""
    sums = [sum(abs(k) for k in values.values()) for values in (one, other)]
    if sums[0] != sums[1]:
        return sums[0] < sums[1]
    for name in sorted(set(one) | set(other)):
        k, m = one.get(name, 0), other.get(name, 0)
        if k != m:
            return (abs(k), k < 0) < (abs(m), m < 0)
    return False


def grid(names, integers):
    """All dicts that give each of the names one of the integers."""
    return [dict(zip(names, row)) for row in itertools.product(integers, repeat=len(names))]


class NamesTest(unittest.TestCase):

    def test_names(self):
        for value in ["a", "z", "tea", LONG, "zzzzzzzz"]:
            self.assertTrue(is_name(value), value)
        for value in ["", "abcdefghi", "A", "aB", "a1", "a\n", "\na", "a b", " a", "a_", "\u00e9", "`", "{",
                      None, True, 1, ["a"], ("a",), {"a": 1}, b"a", Notes()]:
            self.assertFalse(is_name(value), value)

    def test_integers(self):
        for value in [0, 1, -1, HUGE, -HUGE]:
            self.assertTrue(is_integer(value), value)
        for value in [True, False, None, "1", 1.0, [1], (1,), {}, Notes()]:
            self.assertFalse(is_integer(value), value)


class NotesTest(unittest.TestCase):

    def test_no_notes(self):
        for notes in [Notes(), Notes(None), Notes({}), Notes({"a": 0}), Notes({"a": 0, LONG: 0})]:
            self.assertEqual(len(notes), 0)
            self.assertEqual(notes.pairs(), [])
            self.assertEqual(notes["a"], 0)
            self.assertFalse("a" in notes)
            self.assertEqual(notes, Notes())

    def test_some_notes(self):
        notes = Notes({LONG: -2, "b": 3, "a": 0, "ab": 1, "abc": HUGE})
        self.assertEqual(len(notes), 4)
        self.assertEqual(notes.pairs(), [("ab", 1), ("abc", HUGE), (LONG, -2), ("b", 3)])
        self.assertEqual([notes[name] for name in ["a", "ab", "abc", LONG, "b", "c"]], [0, 1, HUGE, -2, 3, 0])
        self.assertEqual([name in notes for name in ["a", "ab", "abc", LONG, "b", "c"]],
                         [False, True, True, True, True, False])

    def test_huge_integers(self):
        notes = Notes({"a": HUGE, "b": -HUGE})
        self.assertEqual(notes["a"] + notes["b"], 0)
        self.assertEqual(notes.pairs(), [("a", HUGE), ("b", -HUGE)])
        notes += Change({"a": ("add", 1), "b": ("add", HUGE)})
        self.assertEqual(notes.pairs(), [("a", HUGE + 1)])

    def test_setting(self):
        notes = Notes({"a": 1})
        notes["b"] = -4
        notes["a"] = 2
        self.assertEqual(notes.pairs(), [("a", 2), ("b", -4)])
        notes["a"] = 0
        self.assertEqual(notes.pairs(), [("b", -4)])
        self.assertFalse("a" in notes)
        self.assertEqual(notes["a"], 0)
        self.assertEqual(len(notes), 1)
        notes["c"] = 0
        self.assertEqual(notes, Notes({"b": -4}))
        notes["b"] = 0
        notes["b"] = 0
        self.assertEqual(notes, Notes())

    def test_reading_changes_nothing(self):
        notes = Notes()
        notes["a"]
        "a" in notes
        self.assertEqual(len(notes), 0)
        self.assertEqual(notes.pairs(), [])

    def test_equality(self):
        self.assertTrue(Notes({"a": 1, "b": 0}) == Notes({"a": 1}))
        self.assertTrue(Notes({"a": 1, "b": 2}) == Notes({"b": 2, "a": 1}))
        self.assertFalse(Notes({"a": 1}) != Notes({"a": 1}))
        for other in [Notes({"a": 2}), Notes({"a": -1}), Notes({"b": 1}), Notes({"a": 1, "b": 1}), Notes()]:
            self.assertFalse(Notes({"a": 1}) == other)
            self.assertTrue(Notes({"a": 1}) != other)

    def test_equality_with_other_kinds(self):
        for other in [None, 0, False, "", "a", [], [("a", 1)], (), {}, {"a": 1}, Change(), Pattern(),
                      Change({"a": ("set", 1)}), Pattern({"a": (1, 1)})]:
            for notes in [Notes(), Notes({"a": 1})]:
                self.assertFalse(notes == other)
                self.assertFalse(other == notes)
                self.assertTrue(notes != other)

    def test_what_was_passed_may_change(self):
        values = {"a": 1}
        notes = Notes(values)
        values["a"] = 5
        values["b"] = 6
        self.assertEqual(notes.pairs(), [("a", 1)])
        notes["a"] = 7
        notes["c"] = 8
        self.assertEqual(values, {"a": 5, "b": 6})

    def test_what_was_returned_may_change(self):
        notes = Notes({"a": 1})
        notes.pairs().append(("b", 2))
        notes.pairs().clear()
        self.assertEqual(notes.pairs(), [("a", 1)])

    def test_not_iterated(self):
        with self.assertRaises(TypeError):
            iter(Notes())


class OrderTest(unittest.TestCase):

    def check(self, one, other):
        """That one comes before other."""
        one, other = Notes(one), Notes(other)
        self.assertTrue(one < other)
        self.assertTrue(one <= other)
        self.assertFalse(one > other)
        self.assertFalse(one >= other)
        self.assertFalse(other < one)
        self.assertFalse(other <= one)
        self.assertTrue(other > one)
        self.assertTrue(other >= one)
        self.assertFalse(one == other)

    def test_examples(self):
        self.check({"a": 1}, {"a": -1})
        self.check({"b": 1}, {"a": 1})
        self.check({"a": 1, "b": 1}, {"a": 2})
        self.check({"a": 2}, {"a": 3})

    def test_sums_first(self):
        self.check({}, {"a": 1})
        self.check({}, {"a": -1})
        self.check({"z": -2}, {"a": 3})
        self.check({"a": -2}, {"a": 3})
        self.check({"a": HUGE}, {"a": HUGE, "b": 1})
        self.check({"a": HUGE, "b": -HUGE}, {"a": 2 * HUGE + 1})
        # The sum of the integers themselves would say the contrary.
        self.check({"a": 1}, {"a": 2, "b": -5})

    def test_opposite_integers(self):
        for k in [1, 2, 9, HUGE]:
            self.check({"a": k}, {"a": -k})
            self.check({"a": 4, "m": k}, {"a": 4, "m": -k})

    def test_the_first_name_decides(self):
        self.check({"a": 1, "b": -5}, {"a": -1, "b": 5})
        self.check({"a": 1, "b": 2, "c": -9}, {"a": 1, "b": -2, "c": 9})
        self.check({"a": 1, "b": 2, "c": 3}, {"a": 1, "b": 2, "c": -3})
        self.check({"a": 1, "b": 1, "c": 4}, {"a": 1, "b": -2, "c": 3})
        self.check({"a": -3, "b": 1, "c": 1}, {"a": -3, "b": 2})

    def test_names_that_the_other_one_does_not_have(self):
        self.check({"b": 1}, {"a": -1})
        self.check({"c": -1}, {"b": 1})
        self.check({"ab": 1}, {"a": 1})
        self.check({"ab": -1}, {"a": 1})
        self.check({"b": 1}, {"ab": 1})
        self.check({"abc": 2}, {"ab": 2})
        self.check({LONG: 1}, {"abcdefg": 1})
        self.check({"abd": 1}, {"abc": 1})
        self.check({"a": 1, "c": 1}, {"a": 1, "b": 1})
        self.check({"b": 1, "c": 1}, {"a": 1, "c": 1})
        self.check({"a": 2, "bb": -7}, {"a": 2, "b": 7})

    def test_equal_notes(self):
        for values in [{}, {"a": 1}, {"a": -1, "b": HUGE}, {LONG: 2, "c": -3}]:
            one, other = Notes(values), Notes(dict(values, zero=0))
            self.assertTrue(one <= other)
            self.assertTrue(one >= other)
            self.assertFalse(one < other)
            self.assertFalse(one > other)
            self.assertTrue(one <= one)

    def test_all_small_notes(self):
        rows = grid(["a", "ab", "b"], [0, 1, -1, 2, -2])
        for one, other in itertools.product(rows, rows):
            notes, others = Notes(one), Notes(other)
            first = comes_first(one, other)
            last = comes_first(other, one)
            self.assertEqual([notes < others, notes <= others, notes > others, notes >= others],
                             [first, not last, last, not first], (one, other))

    def test_the_order_of_many(self):
        rows = [{}, {"c": 1}, {"c": -1}, {"b": 1}, {"b": -1}, {"a": 1}, {"a": -1},
                {"c": 2}, {"c": -2}, {"b": 1, "c": 1}, {"b": 1, "c": -1}, {"b": -1, "c": 1}, {"b": -1, "c": -1},
                {"b": 2}, {"b": -2}, {"a": 1, "c": 1}]
        for at, one in enumerate(rows):
            for other in rows[at + 1:]:
                self.check(one, other)

    def test_other_kinds_have_no_order(self):
        for other in [None, 0, {}, Change(), Pattern()]:
            with self.assertRaises(TypeError):
                Notes() < other
            with self.assertRaises(TypeError):
                Notes() <= other
            with self.assertRaises(TypeError):
                Notes() > other
            with self.assertRaises(TypeError):
                Notes() >= other


class ChangeTest(unittest.TestCase):

    def test_parts(self):
        for change in [Change(), Change(None), Change({}), Change({"a": ("add", 0)})]:
            self.assertEqual(change.parts(), [])
            self.assertEqual(len(change), 0)
            self.assertEqual(change, Change())
        change = Change({"b": ("set", 0), LONG: ("add", -HUGE), "a": ("add", 0), "ab": ("set", 4)})
        self.assertEqual(change.parts(), [("ab", "set", 4), (LONG, "add", -HUGE), ("b", "set", 0)])
        self.assertEqual(len(change), 3)

    def test_equality(self):
        self.assertTrue(Change({"a": ("add", 1), "b": ("set", 2)}) == Change({"b": ("set", 2), "a": ("add", 1)}))
        self.assertTrue(Change({"a": ("add", 1), "b": ("add", 0)}) == Change({"a": ("add", 1)}))
        for other in [Change(), Change({"a": ("set", 1)}), Change({"a": ("add", 2)}), Change({"b": ("add", 1)}),
                      Change({"a": ("add", 1), "b": ("set", 0)})]:
            self.assertFalse(Change({"a": ("add", 1)}) == other)
            self.assertTrue(Change({"a": ("add", 1)}) != other)
        self.assertFalse(Change({"a": ("set", 0)}) == Change())

    def test_equality_with_other_kinds(self):
        for other in [None, 0, "", [], {}, {"a": ("add", 1)}, [("a", "add", 1)], Notes(), Notes({"a": 1}), Pattern()]:
            for change in [Change(), Change({"a": ("add", 1)})]:
                self.assertFalse(change == other)
                self.assertFalse(other == change)

    def test_joining_one_name(self):
        cases = [
            (("add", 2), ("add", 3), [("a", "add", 5)]),
            (("set", 2), ("add", 3), [("a", "set", 5)]),
            (("add", 2), ("set", 3), [("a", "set", 3)]),
            (("set", 2), ("set", 3), [("a", "set", 3)]),
            (("add", 2), ("add", -2), []),
            (("set", 2), ("add", -2), [("a", "set", 0)]),
            (("add", 2), ("set", 0), [("a", "set", 0)]),
            (("set", 2), ("set", 0), [("a", "set", 0)]),
            (("set", 2), ("add", 0), [("a", "set", 2)]),
            (("add", 0), ("set", 0), [("a", "set", 0)]),
            (("add", HUGE), ("add", -HUGE - 1), [("a", "add", -1)]),
        ]
        for first, second, parts in cases:
            with self.subTest(first=first, second=second):
                joined = Change({"a": first}) >> Change({"a": second})
                self.assertIsInstance(joined, Change)
                self.assertEqual(joined.parts(), parts)
                self.assertEqual(len(joined), len(parts))

    def test_joining_several_names(self):
        first = Change({"a": ("add", 1), "b": ("set", 2)})
        second = Change({"b": ("add", -2), "c": ("set", 0)})
        self.assertEqual((first >> second).parts(), [("a", "add", 1), ("b", "set", 0), ("c", "set", 0)])
        self.assertEqual((second >> first).parts(), [("a", "add", 1), ("b", "set", 2), ("c", "set", 0)])
        self.assertEqual(first >> Change(), first)
        self.assertEqual(Change() >> first, first)

    def test_joining_is_first_and_then_second(self):
        parts = [("add", 0), ("add", 1), ("add", -1), ("set", 0), ("set", 2)]
        changes = [Change({"a": one, "b": other}) for one, other in itertools.product(parts, parts)]
        for first, second in itertools.product(changes, changes):
            for values in [{}, {"a": 5, "b": -1}]:
                notes = Notes(values)
                self.assertEqual((first >> second)(notes), second(first(notes)))

    def test_joining_from_the_left_and_from_the_right(self):
        parts = [("add", 0), ("add", 1), ("add", -1), ("set", 0), ("set", 2)]
        changes = [Change({"a": part}) for part in parts]
        for one, two, three in itertools.product(changes, repeat=3):
            self.assertEqual((one >> two) >> three, one >> (two >> three))
        for four in itertools.product(changes, repeat=4):
            left = four[0] >> four[1] >> four[2] >> four[3]
            right = four[0] >> (four[1] >> (four[2] >> four[3]))
            self.assertEqual(left, right)
            self.assertEqual(left.parts(), right.parts())

    def test_three_ways_to_change_notes(self):
        values = {"a": 1, "b": 2, "c": -3}
        cases = [
            ({}, values),
            ({"a": ("add", 4)}, {"a": 5, "b": 2, "c": -3}),
            ({"a": ("add", -1)}, {"b": 2, "c": -3}),
            ({"a": ("set", 0), "b": ("set", 7)}, {"b": 7, "c": -3}),
            ({"d": ("add", 6), "e": ("set", -6), "f": ("set", 0)}, {"a": 1, "b": 2, "c": -3, "d": 6, "e": -6}),
            ({"a": ("add", HUGE), "c": ("set", -HUGE)}, {"a": HUGE + 1, "b": 2, "c": -HUGE}),
        ]
        for parts, after in cases:
            with self.subTest(parts=parts):
                notes, change = Notes(values), Change(parts)
                self.assertEqual(change(notes), Notes(after))
                self.assertEqual(notes + change, Notes(after))
                self.assertEqual(len(notes + change), len(after))
                self.assertEqual((notes + change).pairs(), sorted(after.items()))
                self.assertEqual(notes, Notes(values))
                notes += change
                self.assertEqual(notes, Notes(after))
                self.assertEqual(notes.pairs(), sorted(after.items()))
                self.assertEqual(change, Change(parts))

    def test_results_are_new_notes(self):
        for change in [Change(), Change({"a": ("add", 1)})]:
            notes = Notes({"b": 1})
            for result in [change(notes), notes + change]:
                self.assertIsInstance(result, Notes)
                result["b"] = 9
                result["c"] = 9
                self.assertEqual(notes, Notes({"b": 1}))
            result = notes + change
            notes["b"] = 5
            self.assertEqual(result["b"], 1)

    def test_in_place_changes_the_object_itself(self):
        notes = Notes({"a": 1})
        same = notes
        before = notes + Change()
        also = Change()(notes)
        third = copy.copy(notes)
        notes += Change({"a": ("add", 1), "b": ("set", 3)})
        self.assertIs(notes, same)
        self.assertEqual(same.pairs(), [("a", 2), ("b", 3)])
        same["a"] = 7
        self.assertEqual(notes["a"], 7)
        self.assertEqual(before, Notes({"a": 1}))
        self.assertEqual(also, Notes({"a": 1}))
        self.assertEqual(third, Notes({"a": 1}))
        pairs = notes.pairs()
        notes["a"] = 0
        self.assertEqual(pairs, [("a", 7), ("b", 3)])

    def test_what_was_passed_may_change(self):
        parts = {"a": ("add", 1)}
        change = Change(parts)
        parts["a"] = ("set", 5)
        parts["b"] = ("add", 2)
        self.assertEqual(change.parts(), [("a", "add", 1)])
        self.assertEqual(parts, {"a": ("set", 5), "b": ("add", 2)})

    def test_what_was_returned_may_change(self):
        change = Change({"a": ("add", 1)})
        change.parts().append(("b", "add", 2))
        change.parts().clear()
        self.assertEqual(change.parts(), [("a", "add", 1)])
        self.assertEqual(len(change), 1)

    def test_operators_change_no_operand(self):
        first, second = Change({"a": ("add", 1)}), Change({"a": ("set", 2), "b": ("add", 3)})
        first >> second
        self.assertEqual(first.parts(), [("a", "add", 1)])
        self.assertEqual(second.parts(), [("a", "set", 2), ("b", "add", 3)])
        joined = first
        joined >>= second
        self.assertEqual(first.parts(), [("a", "add", 1)])


if __name__ == "__main__":
    unittest.main()
