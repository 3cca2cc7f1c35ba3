"""The floor that prices of a house set under the costs of every plan without faults."""

from sunstore.errors import NoPrices
from sunstore.triples import added, ahead, multiplied

FREE = ((0, 1), (0, 1), (0, 1))
LACKED = ((1, 1), (0, 1), (0, 1))
UNDONE = ((0, 1), (1, 1), (0, 1))


def coins(price):
    """The triple of a price."""
    return ((0, 1), (0, 1), (price, 1))


def less(one, other):
    """One triple less another."""
    return added(one, multiplied(other, (-1, 1)))


def line_rests(line, here):
    """The rests of buying and giving in an hour, each with its most."""
    if line is None:
        return []
    return [(less(coins(line[0]), here), line[1]), (less(here, coins(line[2])), line[3])]


def hour_rests(hour, store, here, behind, later):
    """The rests in an hour, each with its most, by its price, that behind it, and that behind the next hour."""
    return line_rests(hour[2], here) + [
        (less(here, multiplied(behind, store[4])), store[2]),
        (less(behind, multiplied(here, store[5])), store[3]),
        (less(LACKED, here), hour[1]),
        (less(behind, later), store[0]),
    ]


def work_rests(work, here, done):
    """The rests of a work, each with its most, by the prices of all hours and its own."""
    worked = [(less(price, done), work[4]) for price in here[work[2]:work[3] + 1]]
    return worked + [(less(UNDONE, done), work[1])]


def stored_of(house, prices):
    """The prices in the store behind each hour, and as if there were one hour more the price end."""
    return prices[1] + (coins(house[1][6]),)


def rests_of(house, prices):
    """The rests of a house's prices, each with its most, but those of spilling."""
    stored = stored_of(house, prices)
    found = []
    for number, hour in enumerate(house[0]):
        found.extend(hour_rests(hour, house[1], prices[0][number], stored[number], stored[number + 1]))
    for work, done in zip(house[2], prices[2]):
        found.extend(work_rests(work, prices[0], done))
    return found


def worth_of(house, prices):
    """What the needs less the sun, less the start, and the works' amounts come to by the prices."""
    told = multiplied(stored_of(house, prices)[0], (-house[1][1], 1))
    for hour, here in zip(house[0], prices[0]):
        told = added(told, multiplied(here, (hour[1] - hour[0], 1)))
    for work, done in zip(house[2], prices[2]):
        told = added(told, multiplied(done, (work[1], 1)))
    return told


def floor_of(house, prices):
    """The triple that the costs of no plan without faults are ahead of; NoPrices where spilling has a rest ahead."""
    for number, here in enumerate(prices[0]):
        if ahead(here, FREE):
            raise NoPrices(number)
    told = worth_of(house, prices)
    for rest, most in rests_of(house, prices):
        if ahead(rest, FREE):
            told = added(told, multiplied(rest, (most, 1)))
    return told
