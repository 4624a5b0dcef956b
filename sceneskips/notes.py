"""Names, notes, changes and the order of notes."""

LONGEST_NAME = 8
NO_PART = ("add", 0)


def is_name(value):
    """Tell whether any value is a name."""
    if not isinstance(value, str) or len(value) == 0 or len(value) > LONGEST_NAME:
        return False
    return all(["a" <= letter <= "z" for letter in value])


def is_integer(value):
    """Tell whether any value is an integer: True and False are none."""
    return isinstance(value, int) and not isinstance(value, bool)


def in_order(names):
    """Return a list of the names in alphabetical order."""
    # This is asked for so often that the time counts.
    if len(names) < 2:
        return list(names)
    return sorted([str(name) for name in names])


def rank(k):
    """Return an integer from 0 that tells the place of the integer k in the order of notes."""
    return 2 * abs(k) + (1 if k < 0 else 0)


def ranked(place):
    """Return the integer that has this place."""
    return -(place // 2) if place & 1 else place // 2


def _without_zeros(values):
    return {name: values[name] for name in values if values[name] != 0}


def _done(k, part):
    """Return what the part makes of the integer k."""
    if part[0] == "set":
        return part[1]
    return k + part[1]


def _changed(values, parts):
    after = dict(values)
    for name in parts:
        after[name] = _done(after.get(name, 0), parts[name])
    return _without_zeros(after)


def _joined(first, second):
    """Return the part that does first and then second."""
    if second[0] == "set":
        return second
    return (first[0], first[1] + second[1])


class Notes:
    """An integer for every name; all but finitely many are 0."""

    def __init__(self, values=None):
        self._values = _without_zeros({} if values is None else values)

    def __getitem__(self, at):
        return self._values.get(at, 0)

    def __setitem__(self, at, worth):
        self._values = _without_zeros({**self._values, at: worth})

    # Without this, Python would ask for the notes 0, 1, 2 and so on for ever.
    def __iter__(self):
        raise TypeError("notes are not iterated over: use pairs()")

    def __contains__(self, x):
        return x in self._values

    def __len__(self):
        return len(self._values)

    def pairs(self):
        """Return the names and integers of the notes that are not 0."""
        return [(name, self._values[name]) for name in in_order(self._values)]

    def copied(self):
        """Return a copy of these notes."""
        return Notes(self._values)

    def __add__(self, other):
        if not isinstance(other, Change):
            return NotImplemented
        return Notes(_changed(self._values, other._parts))

    def __iadd__(self, other):
        if not isinstance(other, Change):
            return NotImplemented
        self._values = _changed(self._values, other._parts)
        return self

    def __eq__(self, other):
        return isinstance(other, Notes) and self._values == other._values

    def __lt__(self, other):
        if not isinstance(other, Notes):
            return NotImplemented
        return self._place() < other._place()

    def __le__(self, other):
        if not isinstance(other, Notes):
            return NotImplemented
        return self._place() <= other._place()

    def __gt__(self, other):
        if not isinstance(other, Notes):
            return NotImplemented
        return self._place() > other._place()

    def __ge__(self, other):
        if not isinstance(other, Notes):
            return NotImplemented
        return self._place() >= other._place()

    def _place(self):
        """Return integers that are ordered, as lists are, as the notes are."""
        place = [sum([abs(k) for k in self._values.values()])]
        for name, k in self.pairs():
            # Where only one of two notes has the earlier name, the other one has 0 there
            # and comes first: so the letters count backwards, and a name that ends (0)
            # comes behind the longer ones that begin with it.
            place.extend([-ord(letter) for letter in name])
            place.extend([0, abs(k), 1 if k < 0 else 0])
        return place


def lesser(one, other):
    """Return the notes that come first; None comes last."""
    if one is None or (other is not None and other < one):
        return other
    return one


def by_notes(rows):
    """Return a list of the tuples in the order of the notes with which they begin."""
    if len(rows) < 2:
        return list(rows)
    middle = len(rows) // 2
    first, second = by_notes(rows[:middle]), by_notes(rows[middle:])
    merged = []
    at, other = 0, 0
    while at < len(first) and other < len(second):
        if second[other][0] < first[at][0]:
            merged.append(second[other])
            other = other + 1
        else:
            merged.append(first[at])
            at = at + 1
    return merged + first[at:] + second[other:]


class Change:
    """What is added to notes, or what they are set to."""

    def __init__(self, parts=None):
        given = {} if parts is None else parts
        self._parts = {name: given[name] for name in given if given[name] != NO_PART}

    def parts(self):
        """Return a list of tuples (name, kind, k)."""
        return [(name, self._parts[name][0], self._parts[name][1]) for name in in_order(self._parts)]

    def part(self, name):
        """Return the part of this name."""
        return self._parts.get(name, NO_PART)

    def then(self, name, part):
        """Return the change that does this one and then the part."""
        return Change({**self._parts, name: _joined(self.part(name), part)})

    def __len__(self):
        return len(self._parts)

    def __rshift__(self, other):
        if not isinstance(other, Change):
            return NotImplemented
        parts = dict(self._parts)
        for name in other._parts:
            parts[name] = _joined(parts.get(name, NO_PART), other._parts[name])
        return Change(parts)

    def __call__(self, notes):
        return notes + self

    def __eq__(self, other):
        return isinstance(other, Change) and self._parts == other._parts
