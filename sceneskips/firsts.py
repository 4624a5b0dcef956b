"""Which one of several plays, tuples (notes, answers), comes first."""


def first_of(best, notes, answers):
    """Return that play of both which comes first; notes and best may be None."""
    if notes is None or (best is not None and _comes_first(best, (notes, answers))):
        return best
    return (notes, list(answers))


def _comes_first(one, other):
    """Tell whether the one of two plays (notes, answers) comes first, or they are the same."""
    if len(one[1]) != len(other[1]):
        return len(one[1]) < len(other[1])
    if one[0] != other[0]:
        return one[0] < other[0]
    return one[1] <= other[1]
