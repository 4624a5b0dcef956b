"""The forms of scenes: whether any value has them, and copies of those that have.

The functions that begin with is_ take any value. The others take what has the form.
"""

from sceneskips.notes import NO_PART, in_order, is_integer, is_name
from sceneskips.spans import NO_LIMITS

DEEPEST = 5
ENTRIES = {"show": 2, "set": 3, "add": 3, "need": 4, "if": 6, "choose": 2, "scene": 2}


def _is_tuple(value, many):
    return isinstance(value, tuple) and len(value) == many


def _is_limit(low, high):
    if low is not None and not is_integer(low):
        return False
    if high is not None and not is_integer(high):
        return False
    return low is None or high is None or low <= high


def is_limits(value):
    """Tell whether the value is a dict from names to tuples (low, high)."""
    if not isinstance(value, dict):
        return False
    return all([is_name(name) and _is_tuple(item, 2) and _is_limit(item[0], item[1])
                for name, item in value.items()])


def _is_part(value):
    return _is_tuple(value, 2) and (value[0] == "add" or value[0] == "set") and is_integer(value[1])


def is_parts(value):
    """Tell whether the value is a dict from names to parts."""
    if not isinstance(value, dict):
        return False
    return all([is_name(name) and _is_part(item) for name, item in value.items()])


def _is_option(value, depth):
    return _is_tuple(value, 3) and is_name(value[0]) and is_limits(value[1]) and is_steps(value[2], depth)


def _are_options(value, depth):
    if not isinstance(value, list) or len(value) == 0:
        return False
    if not all([_is_option(option, depth) for option in value]):
        return False
    words = [option[0] for option in value]
    return len(set(words)) == len(words)


def _is_step(value, depth):
    if not isinstance(value, tuple) or len(value) == 0 or not isinstance(value[0], str):
        return False
    kind = value[0]
    if kind not in ENTRIES or len(value) != ENTRIES[kind]:
        return False
    if kind == "choose":
        return _are_options(value[1], depth + 1)
    if not is_name(value[1]):
        return False
    if kind == "set" or kind == "add":
        return is_integer(value[2])
    if kind == "need":
        return _is_limit(value[2], value[3])
    if kind == "if":
        return _is_limit(value[2], value[3]) and is_steps(value[4], depth + 1) and is_steps(value[5], depth + 1)
    return True


def is_steps(value, depth):
    """Tell whether the value is a list of steps, which have this depth."""
    if not isinstance(value, list):
        return False
    # What is too deep is not looked into, so that no value can nest the calls further.
    if depth > DEEPEST:
        return len(value) == 0
    return all([_is_step(step, depth) for step in value])


def is_skip(value):
    """Tell whether the value is None or a list of rows."""
    if value is None:
        return True
    if not isinstance(value, list):
        return False
    return all([_is_tuple(row, 2) and is_limits(row[0]) and is_parts(row[1]) for row in value])


def has_name(value):
    """Tell whether the value is a tuple of three entries, of which the first one is a name."""
    return _is_tuple(value, 3) and is_name(value[0])


def is_scene(value):
    """Tell whether the value is a scene, whatever the names in its scene steps."""
    return has_name(value) and is_steps(value[1], 1) and is_skip(value[2])


def played_names(steps):
    """Return the names in the scene steps, steps within steps included."""
    names = []
    for step in steps:
        if step[0] == "scene":
            names.append(step[1])
        for inner in inner_steps(step):
            names.extend(played_names(inner))
    return names


def inner_steps(step):
    """Return the lists of steps that stand in the step."""
    if step[0] == "if":
        return [step[4], step[5]]
    if step[0] == "choose":
        return [option[2] for option in step[1]]
    return []


def _kept_limits(limits):
    return {name: limits[name] for name in in_order(limits) if limits[name] != NO_LIMITS}


def _kept_parts(parts):
    return {name: parts[name] for name in in_order(parts) if parts[name] != NO_PART}


def _kept_option(option):
    return (option[0], _kept_limits(option[1]), _kept_steps(option[2]))


def _kept_step(step):
    if step[0] == "if":
        return (step[0], step[1], step[2], step[3], _kept_steps(step[4]), _kept_steps(step[5]))
    if step[0] == "choose":
        return (step[0], [_kept_option(option) for option in step[1]])
    return step


def _kept_steps(steps):
    return [_kept_step(step) for step in steps]


def _kept_skip(skip):
    if skip is None:
        return None
    return [(_kept_limits(limits), _kept_parts(parts)) for limits, parts in skip]


def kept_scene(scene):
    """Return a copy of the scene in the form that a story keeps."""
    return (scene[0], _kept_steps(scene[1]), _kept_skip(scene[2]))
