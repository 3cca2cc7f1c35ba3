"""Answers problems: by a mix and prices that bear it out, or by a way on which sums fall without end.

The simplex method for choices with tops, in whole numbers alone. Each choice is measured in units of its own, in
which its numbers in the rows are whole; mixes, and each part of the costs, are multiplied by numbers that make them
whole. None of this changes which of two things is less. The inverse of the chosen choices' columns is kept multiplied
by their determinant: so it is whole too, and no division below leaves a rest.
"""

from sunstore.fractions import fraction, times

NOUGHT = (0, 1)
PARTS = (0, 1, 2)


def common_multiple(numbers):
    """The least number that each of these numbers, from 1 on, divides."""
    told = 1
    for number in numbers:
        told = fraction(told, number)[0] * number
    return told


def whole(one, by):
    """A fraction multiplied by a number that its bottom divides."""
    return one[0] * (by // one[1])


def scale_of(rows, choice):
    """By what a choice's numbers are multiplied to be whole."""
    return common_multiple([row[choice][1] for row in rows])


def column_of(rows, choice, scale):
    """The choice's numbers that aren't nought, whole, each behind its row's number."""
    return [(place, whole(row[choice], scale)) for place, row in enumerate(rows) if row[choice] != NOUGHT]


def unit_row(count, place):
    """A row of so many numbers, all 0 but a 1 at the place."""
    row = [0] * count
    row[place] = 1
    return row


def product(row, other):
    """The sum of the products of two rows' numbers."""
    return sum([number * other_number for number, other_number in zip(row, other)])


def column_product(row, column):
    """The same of a row and a column."""
    return sum([row[place] * number for place, number in column])


def turned(row, pivot_row, factor, pivot, size):
    """A row behind a turn: the factor's share of the pivot row taken off; for the determinant pivot, it was size."""
    if factor == 0 and pivot == size:
        return row
    return [(number * pivot - factor * other) // size for number, other in zip(row, pivot_row)]


class Table:
    """A problem in whole numbers, and a mix: of each row one chosen choice, all others at nought or full."""

    def __init__(self, costs, rows, rights, tops, first):
        self.scales = [scale_of(rows, choice) for choice in range(len(costs))]
        self.columns = [column_of(rows, choice, scale) for choice, scale in enumerate(self.scales)]
        self.set_weights(costs)
        self.set_limits(rights, tops)
        self.chosen = list(first)
        self.full = [False] * len(costs)
        self.size = 1
        self.inverse = [unit_row(len(first), place) for place in range(len(first))]
        self.prices = [self.first_prices(part) for part in PARTS]

    def set_weights(self, costs):
        """Sets the costs, part by part."""
        self.multiples = []
        self.weights = []
        for part in PARTS:
            weights = [times(triple[part], (scale, 1)) for triple, scale in zip(costs, self.scales)]
            multiple = common_multiple([one[1] for one in weights])
            self.multiples.append(multiple)
            self.weights.append([whole(one, multiple) for one in weights])

    def set_limits(self, rights, tops):
        """Sets the rights and the tops."""
        heights = [None if top is None else times(top, (1, scale)) for top, scale in zip(tops, self.scales)]
        bottoms = [one[1] for one in rights] + [one[1] for one in heights if one is not None]
        self.unit = common_multiple(bottoms)
        self.rights = [whole(one, self.unit) for one in rights]
        self.limits = [None if one is None else whole(one, self.unit) for one in heights]

    def first_prices(self, part):
        """A part of the prices by which the choices that were chosen first have no rest."""
        return [self.weights[part][choice] for choice in self.chosen]

    def rest(self, part, choice):
        """A part of the choice's rest, multiplied by the determinant."""
        return self.weights[part][choice] * self.size - column_product(self.prices[part], self.columns[choice])

    def amounts(self):
        """What there is of each chosen choice, multiplied by the determinant."""
        return [product(row, self.rights) for row in self.inverse]

    def paces(self, choice):
        """By how much each chosen choice falls where a unit more of this one is taken, multiplied likewise."""
        return [column_product(row, self.columns[choice]) for row in self.inverse]

    def flip(self, choice):
        """Puts a choice that isn't chosen from nought to full, or back; rights are of what the full ones leave."""
        by = self.limits[choice] if self.full[choice] else -self.limits[choice]
        self.full[choice] = not self.full[choice]
        for place, number in self.columns[choice]:
            self.rights[place] = self.rights[place] + by * number

    def turn(self, choice, place, paces):
        """Puts a choice into the place of a chosen one, which is then at nought."""
        if self.full[choice]:
            self.flip(choice)
        sign = 1 if paces[place] > 0 else -1
        pivot = sign * paces[place]
        pivot_row = self.inverse[place]
        for part in PARTS:
            factor = -sign * self.rest(part, choice)
            self.prices[part] = turned(self.prices[part], pivot_row, factor, pivot, self.size)
        inverse = [turned(row, pivot_row, sign * pace, pivot, self.size) for row, pace in zip(self.inverse, paces)]
        inverse[place] = [sign * number for number in pivot_row]
        self.inverse = inverse
        self.size = pivot
        self.chosen[place] = choice


def gain_of(table, choice):
    """How sums fall where a choice moves: (part, number), the lesser the better; None where they don't fall."""
    # A choice with a top of nought can't move; a chosen one has no rest, so it isn't told here either.
    if table.limits[choice] == 0:
        return None
    sign = -1 if table.full[choice] else 1
    for part in PARTS:
        rest = sign * table.rest(part, choice)
        if rest != 0:
            return (part, rest) if rest < 0 else None
    return None


def moving(table, careful):
    """A choice by whose move sums fall, or None; where careful, the one with the least number."""
    told = None
    best = None
    for choice in range(len(table.full)):
        gain = gain_of(table, choice)
        if gain is not None and (told is None or gain < best):
            told = choice
            best = gain
            if careful:
                return told
    return told


def stops(table, choice, paces):
    """What can end a choice's move: (length's top, its bottom, the choice that is at its end, its place, if full)."""
    found = []
    if table.limits[choice] is not None:
        found.append((table.limits[choice], 1, choice, None, False))
    sign = -1 if table.full[choice] else 1
    for place, amount in enumerate(table.amounts()):
        number = table.chosen[place]
        limit = table.limits[number]
        pace = sign * paces[place]
        if pace > 0:
            found.append((amount, pace, number, place, False))
        elif pace < 0 and limit is not None:
            found.append((limit * table.size - amount, -pace, number, place, True))
    return found


def sooner(one, other):
    """True where one stop comes ahead of another; of like ones that of the choice with the lesser number."""
    length = one[0] * other[1]
    other_length = other[0] * one[1]
    return length < other_length or length == other_length and one[2] < other[2]


def first_stop(found):
    """The stop that comes first, or None."""
    told = None
    for stop in found:
        if told is None or sooner(stop, told):
            told = stop
    return told


def move(table, choice, paces, stop):
    """Moves a choice up to a stop."""
    if stop[3] is None:
        table.flip(choice)
        return
    table.turn(choice, stop[3], paces)
    if stop[4]:
        table.flip(stop[2])


def mix_of(table, tops):
    """The mix of a table."""
    mix = [top if full else NOUGHT for top, full in zip(tops, table.full)]
    for choice, amount in zip(table.chosen, table.amounts()):
        mix[choice] = fraction(amount * table.scales[choice], table.size * table.unit)
    return mix


def price_of(table, place):
    """The price of the row at a place."""
    parts = [fraction(table.prices[part][place], table.size * table.multiples[part]) for part in PARTS]
    return tuple(parts)


def way_of(table, choice, paces):
    """The way on which a choice without a top moves where nothing stops it."""
    way = [NOUGHT] * len(table.full)
    way[choice] = (table.scales[choice], 1)
    for number, pace in zip(table.chosen, paces):
        way[number] = fraction(-pace * table.scales[number], table.size)
    return way


def solved(costs, rows, rights, tops, first):
    """("best", mix, prices) or ("endless", mix, way)."""
    table = Table(costs, rows, rights, tops, first)
    choice = moving(table, False)
    while choice is not None:
        paces = table.paces(choice)
        stop = first_stop(stops(table, choice, paces))
        if stop is None:
            return ("endless", mix_of(table, tops), way_of(table, choice, paces))
        move(table, choice, paces, stop)
        # Moves of no length could come round and round; those by the least numbers can't (Bland's rule).
        choice = moving(table, stop[0] == 0)
    return ("best", mix_of(table, tops), [price_of(table, place) for place in range(len(rows))])
