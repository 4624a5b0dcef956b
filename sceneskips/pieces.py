"""What an exact scene does to its only note, piece by piece, and the strip of cells that this makes.

A piece is a tuple (low, high, part): the part is done to the integers within these limits.
At a single integer an add and a set do the same, so each integer has another part, too.
"""

from sceneskips.notes import NO_PART


class Cell:
    """The integers within limits, and the parts that may be done to all of them: its colours."""

    def __init__(self, low, high, colours):
        self.low = low
        self.high = high
        self.colours = colours


def pieces_of(stops, name):
    """Return the pieces for this name, in their order: each integer is in one of them."""
    highs = {}
    parts = {}
    for stop in stops:
        for area in stop.areas:
            for low, high in area.spans(name):
                if low not in highs or _is_beyond(high, highs[low]):
                    highs[low] = high
                    parts[low] = stop.effect.part(name)
    pieces = [(None, highs[None], parts[None])]
    for low in sorted([int(low) for low in highs if low is not None]):
        last = pieces[-1][1]
        # The spans of different stops may overlap.
        if _is_beyond(highs[low], last):
            pieces.append((last + 1, highs[low], parts[low]))
    return pieces


def _is_beyond(high, other):
    """Tell whether the one high is greater than the other one."""
    return other is not None and (high is None or high > other)


def cells_of(pieces):
    """Return the cells for these pieces, in their order."""
    apart = _apart(pieces)
    many = _offers(pieces, apart)
    cells = []
    last = None
    for at, piece in enumerate(pieces):
        for cell in _cells_in(piece, apart[at], many):
            if last is not None and len(cell.colours) == 1 and last.colours == cell.colours:
                last.high = cell.high
            else:
                cells.append(cell)
                last = cell
    return cells


def _apart(pieces):
    """Return for each piece whether its integers are cells of their own.

    If some integer of a piece gets the piece's own part from a row, then this row may as
    well take the whole piece: the other rows lose integers, and no row more is needed. So
    a piece is taken apart only where each of its integers may get its other part, from a
    row that counts in another piece, too.
    """
    apart = _short(pieces)
    left = _shared(pieces, apart)
    while left != apart:
        apart = left
        left = _shared(pieces, apart)
    return apart


def _short(pieces):
    """Return for each piece whether it has not too many integers to be taken apart.

    Rows go from the integers of such a piece to other pieces, of which some may be taken
    apart as well. Rows do not cross, and the other parts come in the same order in all of
    these pieces: so whoever follows the rows comes to no piece twice. Every integer leads
    to an end of its own, a piece that is not taken apart, whose part is of the other kind.
    """
    # What happens where no row holds counts as a piece to which 0 is added.
    many = {"add": 1, "set": 0}
    for piece in pieces:
        for kind in ["add", "set"] if _is_single(piece) else [piece[2][0]]:
            many[kind] = many[kind] + 1
    return [_is_short(piece, many["set" if piece[2][0] == "add" else "add"]) for piece in pieces]


def _is_short(piece, many):
    low, high, part = piece
    return low is not None and high is not None and high - low < many


def _is_single(piece):
    return piece[0] is not None and piece[0] == piece[1]


def _shared(pieces, apart):
    """Return which of the pieces that are taken apart have other parts that other pieces offer, too."""
    many = _offers(pieces, apart)
    return [is_apart and (_is_single(piece) or all([many[part] > 1 for part in _others(piece)]))
            for piece, is_apart in zip(pieces, apart)]


def _offers(pieces, apart):
    """Return a dict from parts to the number of the pieces with integers that may get this part."""
    many = {NO_PART: 1}
    for piece, is_apart in zip(pieces, apart):
        for part in [piece[2], *(_others(piece) if is_apart else [])]:
            many[part] = many.get(part, 0) + 1
    return many


def _others(piece):
    """Return the other parts of the integers of the piece."""
    low, high, part = piece
    return [_other(k, part) for k in range(low, high + 1)]


def _other(k, part):
    """Return the other part that does the same to the integer k."""
    return ("set", k + part[1]) if part[0] == "add" else ("add", part[1] - k)


def _cells_in(piece, is_apart, many):
    """Return the cells of the piece; many tells how many pieces offer a part."""
    low, high, part = piece
    if not is_apart:
        return [Cell(low, high, [part])]
    if _is_single(piece):
        colours = [one for one in [part, _other(low, part)] if many[one] > 1]
        return [Cell(low, high, colours if len(colours) > 0 else [part])]
    return [Cell(k, k, [part, _other(k, part)]) for k in range(low, high + 1)]
