"""Stories: lists of scenes, which may play the scenes behind them."""

from sceneskips.errors import InvalidScene, InvalidStory
from sceneskips.forms import has_name, is_scene, kept_scene, played_names


def _fits(item, earlier, later):
    """Tell whether the item is a scene that may stand between items with these names."""
    if not is_scene(item) or item[0] in earlier:
        return False
    return all([name in later for name in played_names(item[1])])


def _check(scenes):
    """Raise InvalidStory if the value is not a list of scenes that go together."""
    if not isinstance(scenes, list) or len(scenes) == 0:
        raise InvalidStory(None)
    names = [item[0] if has_name(item) else None for item in scenes]
    for at, item in enumerate(scenes):
        if not _fits(item, names[:at], names[at + 1:]):
            raise InvalidStory(at)


class Story:
    """A list of scenes; the story begins with the first one."""

    def __init__(self, scenes):
        _check(scenes)
        self._scenes = [kept_scene(scene) for scene in scenes]

    def scenes(self):
        """Return the list of the scenes."""
        return [kept_scene(scene) for scene in self._scenes]

    def names(self):
        """Return the list of the names of the scenes."""
        return [scene[0] for scene in self._scenes]

    def with_skip(self, name, skip):
        """Return the story in which the scene with this name has this skip."""
        names = self.names()
        if name not in names:
            raise InvalidScene("no scene has this name")
        scenes = self.scenes()
        at = names.index(name)
        scenes[at] = (names[at], scenes[at][1], skip)
        return Story(scenes)

    def __eq__(self, other):
        return isinstance(other, Story) and self._scenes == other._scenes
