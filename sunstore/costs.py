"""The costs of a plan: what is lacked, what is undone, and the coins."""

from sunstore.fractions import minus, plus, times
from sunstore.ledgers import ledger
from sunstore.triples import added

NOUGHT = (0, 1)


def coins_of(line, deeds):
    """The price of what is bought less that of what is given; without line nothing has a price."""
    if line is None:
        return NOUGHT
    return minus(times((line[0], 1), deeds[0]), times((line[2], 1), deeds[1]))


def hour_costs(hour, deeds):
    """What an hour adds to the costs; what is worked in it makes the undone less."""
    worked = NOUGHT
    for part in deeds[5]:
        worked = plus(worked, part)
    return (deeds[4], minus(NOUGHT, worked), coins_of(hour[2], deeds))


def costs(house, plan):
    """The costs of any plan, with faults or without: a triple."""
    store = house[1]
    level = (store[1], 1)
    for entry in ledger(house, plan):
        level = entry[2]
    amounts = sum([work[1] for work in house[2]])
    told = (NOUGHT, (amounts, 1), minus(NOUGHT, times((store[6], 1), level)))
    for hour, deeds in zip(house[0], plan):
        told = added(told, hour_costs(hour, deeds))
    return told
