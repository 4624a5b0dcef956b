"""A strip of cells that is painted with the fewest strokes.

A stroke paints the cells from a first one to a last one in one colour, over what was there.
In the end each cell shows one of the colours that it may have.
"""


def fewest_strokes(cells):
    """Return the strokes, tuples (first, last, colour), from the last one that is painted to the first.

    The cells are lists of the colours that they may have, without duplicates. The first
    stroke that is painted begins at the first cell.
    """
    return Strip(cells).strokes()


class Strip:
    """The fewest strokes for all cells next to one another.

    Which cells show which stroke is what counts: of two strokes, one may stand in a gap of
    the other, but they do not cross. So the cells between two next ones of a stroke are
    painted by strokes of their own. Below, i is the first cell, and k the next one that
    shows the stroke of i.

    fewest[i][n] is for the n cells from i on; begun[i][c][n] likewise, if i shows colour c.
    """

    def __init__(self, cells):
        self._cells = cells
        self._fewest = [[0] for cell in cells] + [[0]]
        self._begun = [{} for cell in cells]
        self._later = {}
        for i in range(len(cells) - 1, -1, -1):
            self._fill(i)

    def _fill(self, i):
        rows = []
        for colour in self._cells[i]:
            later = self._later.setdefault(colour, [])
            row = self._begin(i, colour, self._useful(i, later[::-1]))
            rows.append(row)
            self._begun[i][colour] = row
            later.append(i)
        self._fewest[i] = rows[0]
        for row in rows[1:]:
            self._fewest[i] = _lower(self._fewest[i], row)

    def _between(self, i, k):
        """Return the fewest strokes for the cells between i and k."""
        return self._fewest[i + 1][k - i - 1]

    def _useful(self, i, later):
        """Return those of the cells that can be the next one to show the stroke of i.

        A cell is left out if it comes as cheap by an earlier one that shows this stroke, too.
        """
        useful = []
        for k in later:
            many = self._between(i, k)
            if all([self._between(i, at) + self._between(at, k) > many for at in useful]):
                useful.append(k)
        return useful

    def _begin(self, i, colour, later):
        row = [0] + [many + 1 for many in self._fewest[i + 1]]
        for k in later:
            inner = self._between(i, k)
            rest = [inner + many for many in self._begun[k][colour][1:]]
            row = row[:k - i + 1] + _lower(row[k - i + 1:], rest)
        return row

    def strokes(self):
        """Return strokes that are enough."""
        found = []
        waiting = [(0, len(self._cells))]
        while waiting:
            first, many = waiting.pop()
            if many > 0:
                colour = self._colour(first, many)
                last, gaps = self._follow(first, many, colour)
                found.append((first, last, colour))
                waiting.extend(gaps)
        # A stroke was found ahead of those in its gaps.
        return found[::-1]

    def _colour(self, i, many):
        """Return a colour of i with which the fewest strokes are enough for the cells from i on."""
        return [c for c in self._cells[i] if self._begun[i][c][many] == self._fewest[i][many]][0]

    def _follow(self, i, many, colour):
        """Return the last cell of the stroke of i, and tuples (first, many) for the cells in and behind it."""
        gaps = []
        k = self._next(i, many, colour)
        while k is not None:
            gaps.append((i + 1, k - i - 1))
            many = many - (k - i)
            i = k
            k = self._next(i, many, colour)
        gaps.append((i + 1, many - 1))
        return i, gaps

    def _next(self, i, many, colour):
        """Return the next cell that shows the stroke of i, or None."""
        wanted = self._begun[i][colour][many]
        if wanted == self._fewest[i + 1][many - 1] + 1:
            return None
        for k in self._later[colour][::-1]:
            if i < k < i + many and self._between(i, k) + self._begun[k][colour][many - (k - i)] == wanted:
                return k
        return None


def _lower(row, other):
    """Return the lesser ones of each two integers."""
    return [one if one < two else two for one, two in zip(row, other)]
