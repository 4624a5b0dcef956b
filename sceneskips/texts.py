"""Stories as texts."""

from sceneskips.errors import InvalidStory, InvalidText
from sceneskips.forms import DEEPEST
from sceneskips.stories import Story
from sceneskips.words import read_integer, read_limit, read_limits, read_parts, show_limit, show_limits, show_parts

# The number of words in the first line of a step.
WORDS = {"show": 2, "set": 3, "add": 3, "need": 4, "if": 4, "choose": 1, "play": 2}


def show_story(story):
    """Return the text of the story."""
    return "\n".join([line for scene in story.scenes() for line in _scene_lines(scene)])


def read_story(text):
    """Return the story with this text."""
    if not isinstance(text, str):
        raise InvalidText("this is not a string")
    try:
        story = Story(Reader(text.split("\n")).scenes())
    except InvalidStory:
        raise InvalidText("these scenes are not a story") from None
    # So whatever the reader lets pass, every story has one text.
    if show_story(story) != text:
        raise InvalidText("this story has another text")
    return story


def _scene_lines(scene):
    name, steps, skip = scene
    lines = [f"scene {name}", *_lines(steps)]
    if skip is not None:
        lines.append("skip")
        lines.extend([" ".join(["row", *show_limits(limits), ":", *show_parts(parts)]) for limits, parts in skip])
    return lines


def _lines(steps):
    return [line for step in steps for line in _step_lines(step)]


def _step_lines(step):
    kind = step[0]
    if kind == "scene":
        return [f"play {step[1]}"]
    if kind == "choose":
        return ["choose", *[line for option in step[1] for line in _option_lines(option)], "end"]
    if kind == "need" or kind == "if":
        line = f"{kind} {step[1]} {show_limit(step[2])} {show_limit(step[3])}"
        return [line] if kind == "need" else [line, *_lines(step[4]), "else", *_lines(step[5]), "end"]
    return [" ".join([str(word) for word in step])]


def _option_lines(option):
    word, limits, steps = option
    return [" ".join(["option", word, *show_limits(limits)]), *_lines(steps)]


class Reader:
    """Reads the lines of a text, one after another."""

    def __init__(self, lines):
        self._lines = lines
        self._at = 0

    def scenes(self):
        """Return what the lines tell of scenes; whether it is a story is not looked at."""
        scenes = []
        while self._at < len(self._lines):
            words = self._take("scene")
            if len(words) != 2:
                raise InvalidText("a scene has a name")
            scenes.append((words[1], self._read_steps(1), self._read_skip()))
        return scenes

    def _next(self):
        """Return the first word of the next line, or None behind the last one."""
        return self._lines[self._at].split(" ")[0] if self._at < len(self._lines) else None

    def _take(self, word):
        """Return the words of the next line, which begins with this one."""
        if self._next() != word:
            raise InvalidText("this line should begin otherwise")
        self._at = self._at + 1
        return self._lines[self._at - 1].split(" ")

    def _read_steps(self, depth):
        steps = []
        while self._next() in WORDS:
            # A text can nest steps further than calls can be nested.
            if depth > DEEPEST:
                raise InvalidText("the steps are nested too deep")
            steps.append(self._read_step(self._next(), depth))
        return steps

    def _read_step(self, kind, depth):
        words = self._take(kind)
        if len(words) != WORDS[kind]:
            raise InvalidText("this step has another number of words")
        if kind == "play":
            return ("scene", words[1])
        if kind == "choose":
            return (kind, self._read_options(depth))
        if kind == "show":
            return (kind, words[1])
        if kind == "need":
            return (kind, words[1], read_limit(words[2]), read_limit(words[3]))
        if kind == "if":
            return (kind, words[1], read_limit(words[2]), read_limit(words[3]), *self._read_sides(depth))
        return (kind, words[1], read_integer(words[2]))

    def _read_sides(self, depth):
        first = self._read_steps(depth + 1)
        self._take("else")
        second = self._read_steps(depth + 1)
        self._take("end")
        return first, second

    def _read_options(self, depth):
        options = []
        while self._next() == "option":
            words = self._take("option")
            if len(words) < 2:
                raise InvalidText("an option has a word")
            options.append((words[1], read_limits(words[2:]), self._read_steps(depth + 1)))
        self._take("end")
        return options

    def _read_skip(self):
        if self._next() != "skip":
            return None
        self._take("skip")
        rows = []
        while self._next() == "row":
            words = self._take("row")
            if ":" not in words:
                raise InvalidText("a sign is missing")
            at = words.index(":")
            rows.append((read_limits(words[1:at]), read_parts(words[at + 1:])))
        return rows
