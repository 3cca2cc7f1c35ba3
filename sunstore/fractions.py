"""Fractions: tuples (top, bottom) in lowest terms, the bottom from 1 on; and how they are written."""

from sunstore.errors import NoFraction

FIGURES = "0123456789"
MOST_FIGURES = 60


def common_divisor(one, other):
    """The greatest number that divides both; numbers from 0 on, not both 0."""
    while other != 0:
        rest = one % other
        one = other
        other = rest
    return one


def fraction(top, bottom):
    """The fraction of two whole numbers, in lowest terms; NoFraction where bottom is 0."""
    if bottom == 0:
        raise NoFraction(top)
    divisor = common_divisor(abs(top), abs(bottom))
    # The sign belongs to the top: a divisor below 0 moves it there.
    if bottom < 0:
        divisor = -divisor
    return (top // divisor, bottom // divisor)


def plus(one, other):
    """The sum."""
    # Both are in lowest terms, so only what divides both bottoms can divide the sum's top and bottom. To look for
    # it there alone, and likewise in a product crosswise, spares divisors of far greater numbers.
    shared = common_divisor(one[1], other[1])
    top = one[0] * (other[1] // shared) + other[0] * (one[1] // shared)
    divisor = common_divisor(abs(top), shared)
    return (top // divisor, one[1] // shared * (other[1] // divisor))


def minus(one, other):
    """The difference."""
    return plus(one, (-other[0], other[1]))


def times(one, other):
    """The product."""
    divisor = common_divisor(abs(one[0]), other[1])
    other_divisor = common_divisor(abs(other[0]), one[1])
    top = one[0] // divisor * (other[0] // other_divisor)
    return (top, one[1] // other_divisor * (other[1] // divisor))


def over(one, other):
    """One divided by the other; NoFraction where the other is nought."""
    if other[0] == 0:
        raise NoFraction(one)
    return times(one, fraction(other[1], other[0]))


def under(one, other):
    """True where one is less than the other."""
    return one[0] * other[1] < other[0] * one[1]


def figures_of(number):
    """The figures of a whole number from 0 on."""
    # Piece by piece, because Python refuses to write out numbers of some thousand figures at once.
    piece = 10 ** 60
    pieces = []
    rest = number
    while rest >= piece:
        pieces.append(str(rest % piece).zfill(60))
        rest = rest // piece
    pieces.append(str(rest))
    pieces.reverse()
    return "".join(pieces)


def written(one):
    """The text of a fraction."""
    text = figures_of(abs(one[0]))
    if one[0] < 0:
        text = "-" + text
    if one[1] != 1:
        text = text + "/" + figures_of(one[1])
    return text


def read_figures(text):
    """The number that a text of figures alone stands for, or None."""
    if text == "" or len(text) > MOST_FIGURES:
        return None
    for sign in text:
        if sign not in FIGURES:
            return None
    return int(text)


def read_signed(text):
    """The number that figures, with or without a - ahead, stand for, or None."""
    if not text.startswith("-"):
        return read_figures(text)
    number = read_figures(text[1:])
    if number is None:
        return None
    return -number


def read_fraction(text):
    """The fraction that the text writes, or None."""
    parts = text.partition("/")
    top = read_signed(parts[0])
    bottom = 1
    if parts[1] == "/":
        bottom = read_figures(parts[2])
    if top is None or bottom is None or bottom == 0:
        return None
    one = fraction(top, bottom)
    # A fraction has one text alone, so 2/4, 3/1, 01 and -0 write none.
    if written(one) != text:
        return None
    return one
