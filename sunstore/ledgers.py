"""The ledger of a plan, and the plan's faults."""

from sunstore.fractions import minus, plus, times, under

NOUGHT = (0, 1)
# A dark hour is held to the bounds of a line by which nothing can be bought or given.
NO_LINE = (0, 0, 0, 0)


def spilt_in(hour, deeds, left):
    """What remains in an hour of what comes in, behind all that goes out of it."""
    rest = (hour[0] - hour[1], 1)
    for part in (deeds[0], deeds[4], times(left, deeds[3])):
        rest = plus(rest, part)
    for part in (deeds[1], deeds[2]) + deeds[5]:
        rest = minus(rest, part)
    return rest


def lost_in(deeds, kept, left):
    """What is lost in an hour on the way into the store and out of it."""
    filling = minus(deeds[2], times(kept, deeds[2]))
    taking = minus(deeds[3], times(left, deeds[3]))
    return plus(filling, taking)


def ledger(house, plan):
    """A list with (spilt, lost, level) for each hour."""
    store = house[1]
    kept = store[4]
    left = store[5]
    level = (store[1], 1)
    entries = []
    for hour, deeds in zip(house[0], plan):
        level = minus(plus(level, times(kept, deeds[2])), deeds[3])
        entries.append((spilt_in(hour, deeds, left), lost_in(deeds, kept, left), level))
    return entries


def beyond(one, most):
    """True where a fraction is below 0 or above a whole number."""
    return under(one, NOUGHT) or under((most, 1), one)


def hour_faults(house, number, deeds, entry):
    """The faults of the hour of this number, but those of works."""
    hour = house[0][number]
    store = house[1]
    line = NO_LINE if hour[2] is None else hour[2]
    bounded = (
        ("buy", deeds[0], line[1]),
        ("give", deeds[1], line[3]),
        ("fill", deeds[2], store[2]),
        ("take", deeds[3], store[3]),
        ("lack", deeds[4], hour[1]),
        ("level", entry[2], store[0]),
    )
    found = [(word, number) for word, one, most in bounded if beyond(one, most)]
    if under(entry[0], NOUGHT):
        found.append(("spill", number))
    return found


def work_faults(work, number, plan):
    """The faults of the work of this number."""
    found = []
    undone = (work[1], 1)
    for hour, deeds in enumerate(plan):
        part = deeds[5][number]
        undone = minus(undone, part)
        most = work[4] if work[2] <= hour <= work[3] else 0
        if beyond(part, most):
            found.append(("work", hour, number))
    if under(undone, NOUGHT):
        found.append(("done", number))
    return found


def faults(house, plan):
    """The sorted list of a plan's faults."""
    found = []
    for number, entry in enumerate(ledger(house, plan)):
        found.extend(hour_faults(house, number, plan[number], entry))
    for number, work in enumerate(house[2]):
        found.extend(work_faults(work, number, plan))
    return sorted(found)
