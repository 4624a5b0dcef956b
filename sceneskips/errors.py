"""The errors of the package: each one stands directly under SceneError.

Those with fields keep them as attributes, as they are passed.
"""


class SceneError(ValueError):
    """The class above all errors of the package."""


class NoCommon(SceneError):
    """No notes are in both, or none are led into the pattern."""


class InvalidScene(SceneError):
    """No scene has this name."""


class InvalidAnswer(SceneError):
    """The word is not a possible answer."""


class PlayOver(SceneError):
    """The play is complete."""


class NoSkip(SceneError):
    """The scene has no skip."""


class NotExact(SceneError):
    """The scene is not exact."""


class TooWide(SceneError):
    """The steps of the scene name more than one note."""


class TooMany(SceneError):
    """The scene has too many runs."""


class InvalidText(SceneError):
    """The value is not the text of a story."""


class InvalidCommand(SceneError):
    """The value is not a command of the desk."""


class NothingToUndo(SceneError):
    """There are fewer changes or answers than are to be taken back."""


class NoPlay(SceneError):
    """The desk has no play."""


class InvalidStory(SceneError):
    """The value is not a story: index tells the first item that is wrong, or is None."""

    def __init__(self, index):
        self.index = index


class InvalidBook(SceneError):
    """The answer at index is refused: over tells whether the play is complete before it."""

    def __init__(self, index, over):
        self.index = index
        self.over = over


class WrongSkip(SceneError):
    """The scene with this name is skipped at notes at which its skip is wrong."""

    def __init__(self, name, at):
        self.name = name
        self.at = at
