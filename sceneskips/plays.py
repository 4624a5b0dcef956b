"""Live plays: they do the steps of a scene, and ask."""

from sceneskips.errors import InvalidAnswer, InvalidBook, InvalidScene, NothingToUndo, PlayOver
from sceneskips.notes import Change
from sceneskips.skips import after_skip
from sceneskips.spans import holds


class Play:
    """A play of a scene of a story, from some notes on."""

    def __init__(self, story, notes, *, scene=None):
        self._scenes = {name: (steps, skip) for name, steps, skip in story.scenes()}
        name = story.names()[0] if scene is None else scene
        if name not in self._scenes:
            raise InvalidScene("no scene has this name")
        self._steps = self._scenes[name][0]
        self._start = notes.copied()
        self._begin()

    @property
    def state(self):
        """The string "asking", or how the play ended."""
        return self._state

    @property
    def question(self):
        """What the play asks: None, ("choose", words) or ("skip", name)."""
        if len(self._options) == 0:
            return None
        if self._asked is None:
            return ("choose", list(self._options))
        return ("skip", self._asked)

    @property
    def shown(self):
        """The words that were shown."""
        return list(self._shown)

    @property
    def notes(self):
        """The notes at this moment."""
        return self._notes.copied()

    @property
    def answers(self):
        """The answers that were given."""
        return list(self._answers)

    def __len__(self):
        return len(self._answers)

    def answer(self, word):
        """Give the answer to the question, and go on."""
        if self._state != "asking":
            raise PlayOver("the play is complete")
        if not isinstance(word, str) or word not in self._options:
            raise InvalidAnswer("this is not a possible answer")
        self._answers.append(word)
        # In a choice, skip is a word like any other.
        if self._asked is not None and word == "skip":
            self._notes = after_skip(self._scenes[self._asked][1], self._notes)
        self._follow(self._options[word])
        self._go_on()

    def back(self, count=1):
        """Take the last answers back."""
        if count > len(self._answers):
            raise NothingToUndo("there are fewer answers")
        kept = self._answers[:len(self._answers) - count]
        self._begin()
        for word in kept:
            self.answer(word)

    def _begin(self):
        self._notes = self._start.copied()
        self._shown = []
        self._answers = []
        # The last one is the next one.
        self._rest = self._steps[::-1]
        self._go_on()

    def _follow(self, steps):
        """Put the steps ahead of the rest."""
        self._rest.extend(steps[::-1])

    def _go_on(self):
        """Do the steps up to the next question, or to the end."""
        self._state = None
        self._options = {}
        self._asked = None
        while self._state is None:
            if self._rest:
                self._do(self._rest.pop())
            else:
                self._state = "ended"

    def _do(self, step):
        kind = step[0]
        if kind == "show":
            self._shown.append(step[1])
        elif kind == "need":
            if not holds({step[1]: step[2:]}, self._notes):
                self._state = "lost"
        elif kind == "if":
            self._follow(step[4] if holds({step[1]: step[2:4]}, self._notes) else step[5])
        elif kind == "choose":
            self._offer(step[1])
        elif kind == "scene":
            self._play(step[1])
        else:
            self._notes = self._notes + Change({step[1]: (kind, step[2])})

    def _offer(self, options):
        self._options = {word: steps for word, limits, steps in options if holds(limits, self._notes)}
        self._state = "asking" if self._options else "stuck"

    def _play(self, name):
        steps, skip = self._scenes[name]
        if skip is None:
            self._follow(steps)
        else:
            self._options = {"watch": steps, "skip": []}
            self._asked = name
            self._state = "asking"


def give(play, at, word):
    """Give the play the answer that stands at this index of a book."""
    try:
        play.answer(word)
    except PlayOver:
        raise InvalidBook(at, True) from None
    except InvalidAnswer:
        raise InvalidBook(at, False) from None


def resumed(story, notes, book, *, scene=None):
    """Return the play in which the answers of the book were given."""
    play = Play(story, notes, scene=scene)
    for at, word in enumerate(book):
        give(play, at, word)
    return play
