"""Problems: their mixes, and the floors that prices set under the sums of all mixes."""

from sunstore.fractions import plus, times, under
from sunstore.triples import added, ahead, multiplied

NOUGHT = (0, 1)
FREE = (NOUGHT, NOUGHT, NOUGHT)


def row_sum(row, mix):
    """What the products of a row's numbers and the mix's come to."""
    told = NOUGHT
    for number, part in zip(row, mix):
        told = plus(told, times(number, part))
    return told


def within(part, top):
    """True where a part of a mix is from 0 on and not above its top."""
    return not under(part, NOUGHT) and (top is None or not under(top, part))


def is_mix(rows, rights, tops, mix):
    """True where the fractions are a mix of the problem."""
    for part, top in zip(mix, tops):
        if not within(part, top):
            return False
    for row, right in zip(rows, rights):
        if row_sum(row, mix) != right:
            return False
    return True


def sum_of(costs, mix):
    """The triple of all costs multiplied by the mix."""
    told = FREE
    for triple, part in zip(costs, mix):
        told = added(told, multiplied(triple, part))
    return told


def rests(costs, rows, prices):
    """For each choice its costs less the prices of what it has in the rows."""
    told = list(costs)
    for row, price in zip(rows, prices):
        less = multiplied(price, (-1, 1))
        told = [rest if number == NOUGHT else added(rest, multiplied(less, number)) for rest, number in zip(told, row)]
    return told


def floor(costs, rows, rights, tops, prices):
    """The triple that no mix's sum is ahead of, or None where a choice without a top has a rest ahead of nought."""
    told = sum_of(prices, rights)
    for rest, top in zip(rests(costs, rows, prices), tops):
        if ahead(rest, FREE):
            if top is None:
                return None
            told = added(told, multiplied(rest, top))
    return told
