"""The desk: a story and a play of it, changed and asked by commands."""

from sceneskips.checks import wrong_notes
from sceneskips.errors import InvalidCommand, InvalidText, NoPlay, NothingToUndo
from sceneskips.notes import is_name
from sceneskips.patterns import Pattern
from sceneskips.plays import Play
from sceneskips.stories import Story
from sceneskips.texts import read_story, show_story
from sceneskips.whole import bad_play
from sceneskips.words import read_integer, read_notes, show_notes

MOST_BACK = 200


class Desk:
    """A story, at first with one empty scene, and perhaps a play."""

    def __init__(self):
        self._story = Story([("a", [], None)])
        self._earlier = []
        self._live = None

    def execute(self, command):
        """Do the command, and return what there is to say."""
        if not isinstance(command, str) or "\n" in command:
            raise InvalidCommand("this is not a line of words")
        plain = {"undo": self._undo, "show": self._show, "check": self._check, "bad": self._bad}
        if command in plain:
            action = plain[command]
            return action()
        longer = {"story": self._tell, "skip": self._skip, "wrong": self._wrong, "play": self._begin,
                  "answer": self._answer, "back": self._back}
        word, space, rest = command.partition(" ")
        if space == "" or word not in longer:
            raise InvalidCommand("there is no such command")
        act = longer[word]
        return act(rest)

    def _change(self, story):
        self._earlier.append(self._story)
        return self._become(story)

    def _become(self, story):
        self._story = story
        self._live = None
        return "ok"

    def _tell(self, rest):
        return self._change(_read_story(rest))

    def _skip(self, rest):
        name, space, rows = rest.partition(" ")
        skip = _read_skip(rows)
        return self._change(self._story.with_skip(_read_name(name), skip))

    def _undo(self):
        if len(self._earlier) == 0:
            raise NothingToUndo("there is no change to take back")
        return self._become(self._earlier.pop())

    def _show(self):
        return show_story(self._story).replace("\n", "/")

    def _wrong(self, rest):
        notes = wrong_notes(self._story, _read_name(rest))
        return "right" if notes is None else show_notes(notes)

    def _check(self):
        for name, steps, skip in self._story.scenes():
            if skip is not None and wrong_notes(self._story, name) is not None:
                return name
        return "right"

    def _bad(self):
        play = bad_play(self._story, Pattern())
        return "none" if play is None else " ".join([show_notes(play[0]), "|", *play[1]])

    def _begin(self, rest):
        notes = _read_notes(rest)
        self._live = Play(self._story, notes)
        return self._stand()

    def _answer(self, rest):
        word = _read_name(rest)
        self._need_play()
        self._live.answer(word)
        return self._stand()

    def _back(self, rest):
        many = _read_number(rest)
        self._need_play()
        self._live.back(many)
        return self._stand()

    def _need_play(self):
        if self._live is None:
            raise NoPlay("there is no play")

    def _stand(self):
        """Return what the play is now."""
        question = self._live.question
        if question is None:
            return f"{self._live.state} {show_notes(self._live.notes)}"
        kind, asked = question
        return f"{kind} {asked}" if kind == "skip" else " ".join([kind, *asked])


def _read_name(text):
    if not is_name(text):
        raise InvalidCommand("this is not a name")
    return text


def _read_number(text):
    try:
        number = read_integer(text)
    except InvalidText:
        raise InvalidCommand("this is not an integer") from None
    if number < 0 or number > MOST_BACK:
        raise InvalidCommand("so many answers are not taken back")
    return number


def _read_notes(text):
    try:
        return read_notes(text)
    except InvalidText:
        raise InvalidCommand("these are not notes") from None


def _read_story(text):
    try:
        return read_story(text.replace("/", "\n"))
    except InvalidText:
        raise InvalidCommand("this is not the text of a story") from None


def _read_skip(text):
    if text == "none":
        return None
    if text == "empty":
        return []
    # Rows are what may stand behind this, up to the next scene.
    story = _read_story(f"scene a/skip/{text}")
    if len(story.names()) > 1:
        raise InvalidCommand("these are not rows")
    return story.scenes()[0][2]
