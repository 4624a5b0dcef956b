"""Areas, which the functions for stories rest on: spans with gaps, and what covers an area."""

import unittest

from sceneskips.areas import Area, all_met, area_within, parted
from sceneskips.cover import least_beyond, search
from sceneskips.notes import Change, Notes
from sceneskips.patterns import Pattern, area_of, patterns_in

from tests.brute import Rule, holds, plain
from tests.test_notes import comes_first, grid

EVERY = grid("ab", range(-5, 6))
SPANS = [[(None, -3), (-1, 0), (2, None)], [(-4, -4), (-2, -2), (3, 4)], [(None, None)], [(1, 1)], [(None, 0), (2, 3)]]


def areas():
    """All areas with such spans at two names."""
    return [Area({"a": one, "b": other}) for one in SPANS for other in SPANS]


def inside(area):
    return [notes for notes in EVERY if area.has(Notes(notes))]


class AreaTest(unittest.TestCase):

    def test_has_and_least(self):
        for area in areas():
            for notes in EVERY:
                wanted = all(any(holds({name: span}, notes) for span in area.spans(name)) for name in "ab")
                self.assertEqual(area.has(Notes(notes)), wanted)
            least = plain(area.least())
            self.assertTrue(area.has(Notes(least)))
            self.assertFalse(any(comes_first(notes, least) for notes in inside(area)))

    def test_met(self):
        for one in areas()[::2]:
            for other in areas()[::3]:
                both = one.met(other)
                wanted = [notes for notes in inside(one) if other.has(Notes(notes))]
                self.assertEqual([] if both is None else inside(both), wanted)

    def test_source(self):
        for parts in [{"a": ("add", 1)}, {"a": ("set", 3), "b": ("add", -2)}, {"b": ("set", -4)}, {"c": ("set", 1)}]:
            change = Change(parts)
            for area in areas():
                source = area.source(change)
                wanted = [notes for notes in EVERY if area.has(Notes(notes) + change)]
                self.assertEqual([] if source is None else inside(source), wanted)

    def test_patterns(self):
        for area in areas():
            found = patterns_in(area)
            for notes in EVERY:
                self.assertEqual(sum(Notes(notes) in pattern for pattern in found), int(area.has(Notes(notes))))
        self.assertEqual(patterns_in(area_of(Pattern({"a": (1, 2), "b": (None, 0)}))),
                         [Pattern({"a": (1, 2), "b": (None, 0)})])

    def test_parted(self):
        for parts in [{}, {"a": ("add", 2)}, {"a": ("set", 1), "b": ("add", -1)}]:
            for limits in [{}, {"a": (0, 3)}, {"a": (2, None), "b": (None, 1)}, {"b": (1, 1)}, {"a": (None, None)}]:
                for area in areas()[::3]:
                    good, others = parted([area], Change(parts), limits)
                    for notes in EVERY:
                        here = area.has(Notes(notes))
                        led = holds(limits, plain(Notes(notes) + Change(parts)))
                        self.assertEqual(sum(item.has(Notes(notes)) for item in good), int(here and led))
                        self.assertEqual(sum(item.has(Notes(notes)) for item in others), int(here and not led))


class SearchTest(unittest.TestCase):

    def test_small_areas(self):
        rule = Rule(5)
        covered = 0
        for _ in range(200):
            some = rule.some(areas(), rule.number(0, 9))
            box = area_within({"a": (-5, rule.number(-5, 5)), "b": (-5, 5)})
            left = [notes for notes in inside(box) if not any(item.has(Notes(notes)) for item in some)]
            least, used = search(box, some)
            if least is None:
                covered += 1
                self.assertEqual(left, [])
                self.assertIsNone(least_beyond(box, [some[at] for at in used]))
                self.assertTrue(all(any(some[at].has(Notes(notes)) for at in used) for notes in inside(box)))
            else:
                self.assertIn(plain(least), [{name: k for name, k in notes.items() if k} for notes in left])
                self.assertFalse(any(comes_first(notes, plain(least)) for notes in left))
        self.assertGreater(covered, 20)

    def test_areas_beside_the_area(self):
        box = area_within({"a": (1, 3)})
        self.assertEqual(search(box, [area_within({"a": (4, 9)}), area_within({"a": (1, 3)}),
                                      area_within({"a": (None, 0)})]),
                         (None, [1]))
        self.assertEqual(all_met([box, area_within({"a": (5, 5)})], area_within({"a": (3, 4)}))[0].least(),
                         Notes({"a": 3}))


if __name__ == "__main__":
    unittest.main()
