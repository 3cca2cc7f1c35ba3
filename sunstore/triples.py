"""Triples: tuples of three fractions, compared by the first part in which they are unlike."""

from sunstore.fractions import plus, times, under


def added(one, other):
    """The sum, part by part."""
    return (plus(one[0], other[0]), plus(one[1], other[1]), plus(one[2], other[2]))


def multiplied(one, by):
    """The triple with each part multiplied by a fraction."""
    return (times(one[0], by), times(one[1], by), times(one[2], by))


def ahead(one, other):
    """True where one is less at the first part in which they are unlike."""
    for part, other_part in zip(one, other):
        if part != other_part:
            return under(part, other_part)
    return False
