"""Whole stories: plays that come to a wrong skip or end badly, and twins without skips."""

from sceneskips.areas import all_met, all_sources
from sceneskips.cover import least_beyond
from sceneskips.errors import WrongSkip
from sceneskips.firsts import first_of
from sceneskips.notes import lesser
from sceneskips.patterns import area_of
from sceneskips.plays import Play, give
from sceneskips.runs import Runs, runs_of_all
from sceneskips.skips import after_skip, wrong_places


def wrong_play(story, start):
    """Return the first play (notes, answers) that asks whether to skip where that is wrong, or None."""
    runs = runs_of_all(story)
    begin = area_of(start)
    places = {}
    for name, steps, skip in story.scenes():
        if skip is not None:
            found = wrong_places(skip, Runs(story, name, False).different())
            places[name] = [place for place in found if least_beyond(place[0], place[1]) is not None]
    best = None
    for stop in runs.questions:
        # The search takes long, and no play with more answers comes first.
        if best is None or len(stop.book) <= len(best[1]):
            best = first_of(best, _least_wrong(stop, begin, places[stop.about]), stop.book)
    return best


def bad_play(story, start):
    """Return the first play (notes, answers) that ends as "stuck" or "lost", or None."""
    runs = runs_of_all(story)
    begin = area_of(start)
    best = None
    for stop in runs.ends:
        if stop.place != "ended":
            for area in all_met(stop.areas, begin):
                best = first_of(best, area.least(), stop.book)
    return best


def twin(story, notes, answers):
    """Return the answers of a play without skips that comes to the same place."""
    play = Play(story, notes)
    skips = {name: skip for name, steps, skip in story.scenes()}
    ended = {}
    watched = []
    for at, word in enumerate(answers):
        question, here = play.question, play.notes
        give(play, at, word)
        # In a choice, skip is a word like any other.
        if question[0] == "skip" and word == "skip":
            name = question[1]
            if name not in ended:
                ended[name] = Runs(story, name, False).ended()
            watched.append("watch")
            watched.extend(_watched(name, ended[name], here, after_skip(skips[name], here)))
        else:
            watched.append(word)
    return watched


def _watched(name, stops, here, left):
    """Return the answers of one of the plays that goes from the notes here to the notes that are left."""
    for stop in stops:
        if stop.begins_at(here) and here + stop.effect == left:
            return stop.book
    raise WrongSkip(name, here)


def _least_wrong(stop, begin, places):
    """Return the least notes of begin from which the plays ask where one of the places is wrong, or None."""
    starts = all_met(stop.areas, begin)
    least = None
    for area, areas in places:
        source = area.source(stop.effect)
        if source is not None:
            others = all_sources(areas, stop.effect)
            for both in all_met(starts, source):
                if least is None or both.least() < least:
                    least = lesser(least, least_beyond(both, others))
    return least
