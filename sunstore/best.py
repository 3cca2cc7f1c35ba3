"""The best plan of a house, with prices that bear it out.

A house is turned into a problem. Its rows are: for each hour what comes in and goes out; for each hour what is in the
store behind it, reckoned from the start on; for each work what is done and undone of it.
"""

from sunstore.fractions import minus, over, times, under
from sunstore.solving import solved
from sunstore.triples import added, multiplied

NOUGHT = (0, 1)
FREE = ((0, 1), (0, 1), (0, 1))
LACKED = ((1, 1), (0, 1), (0, 1))
UNDONE = ((0, 1), (1, 1), (0, 1))


def coins(price):
    """The costs of a unit that has this price."""
    return ((0, 1), (0, 1), (price, 1))


def into(hour):
    """What a unit that comes in has in its hour's row."""
    # A right is from 0 on, so where there is more sun than need the row tells what goes out.
    return (1, 1) if hour[1] >= hour[0] else (-1, 1)


def out_of(hour):
    """What a unit that goes out has in its hour's row."""
    return minus(NOUGHT, into(hour))


def hour_choices(number, hour):
    """What can be chosen in an hour without the store: each a tuple (name, costs, top, numbers behind their rows)."""
    choices = [
        (("lacked", number), LACKED, (hour[1], 1), [(number, into(hour))]),
        (("spilt", number), FREE, None, [(number, out_of(hour))]),
    ]
    line = hour[2]
    if line is not None:
        choices.append((("bought", number), coins(line[0]), (line[1], 1), [(number, into(hour))]))
        choices.append((("given", number), coins(-line[2]), (line[3], 1), [(number, out_of(hour))]))
    return choices


def store_choices(house, number):
    """Filling and taking in an hour, which change the levels behind it and behind all later ones; and its level."""
    count = len(house[0])
    hour = house[0][number]
    store = house[1]
    filled = [(row, minus(NOUGHT, store[4])) for row in range(count + number, 2 * count)]
    taken = [(row, (1, 1)) for row in range(count + number, 2 * count)]
    end = store[6] if number == count - 1 else 0
    return [
        (("filled", number), FREE, (store[2], 1), [(number, out_of(hour))] + filled),
        (("taken", number), FREE, (store[3], 1), [(number, times(into(hour), store[5]))] + taken),
        (("level", number), coins(-end), (store[0], 1), [(count + number, (1, 1))]),
    ]


def work_choices(house, number):
    """Doing a work in each of its hours, and leaving it undone."""
    work = house[2][number]
    row = 2 * len(house[0]) + number
    choices = [(("undone", number), UNDONE, (work[1], 1), [(row, (1, 1))])]
    for hour in range(work[2], work[3] + 1):
        numbers = [(hour, out_of(house[0][hour])), (row, (1, 1))]
        choices.append((("worked", hour, number), FREE, (work[4], 1), numbers))
    return choices


def choices_of(house):
    """All that can be chosen in a house."""
    found = []
    for number, hour in enumerate(house[0]):
        found.extend(hour_choices(number, hour))
        found.extend(store_choices(house, number))
    for number in range(len(house[2])):
        found.extend(work_choices(house, number))
    return found


def rows_of(choices, count):
    """The rows of choices, so many."""
    rows = [[NOUGHT] * len(choices) for row in range(count)]
    for place, choice in enumerate(choices):
        for row, one in choice[3]:
            rows[row][place] = one
    return rows


def rights_of(house):
    """The rights of a house's rows."""
    needs = [(abs(hour[1] - hour[0]), 1) for hour in house[0]]
    starts = [(house[1][1], 1)] * len(house[0])
    return needs + starts + [(work[1], 1) for work in house[2]]


def first_names(house):
    """For each row the choice that meets its right alone: to lack or to spill, to leave the store, to work nothing."""
    needs = [("lacked" if into(hour) == (1, 1) else "spilt", number) for number, hour in enumerate(house[0])]
    levels = [("level", number) for number in range(len(house[0]))]
    return needs + levels + [("undone", number) for number in range(len(house[2]))]


def parted(store, filled, taken):
    """(filled, taken), one of them 0, that change the level as these do and leave no less in the house."""
    more = minus(times(store[4], filled), taken)
    if under(more, NOUGHT):
        return (NOUGHT, minus(NOUGHT, more))
    return (over(more, store[4]), NOUGHT)


def plan_of(house, amounts):
    """The plan of a house by the amounts of its choices' names."""
    plan = []
    for hour in range(len(house[0])):
        traded = (amounts.get(("bought", hour), NOUGHT), amounts.get(("given", hour), NOUGHT))
        stored = parted(house[1], amounts[("filled", hour)], amounts[("taken", hour)])
        worked = [amounts.get(("worked", hour, number), NOUGHT) for number in range(len(house[2]))]
        plan.append(traded + stored + (amounts[("lacked", hour)], tuple(worked)))
    return tuple(plan)


def prices_of(house, told):
    """The prices of a house by those of its rows."""
    count = len(house[0])
    here = [multiplied(price, into(hour)) for hour, price in zip(house[0], told)]
    stored = []
    behind = FREE
    # A unit in the store is in all later levels too, so its price is what the prices of their rows come to.
    for price in reversed(told[count:2 * count]):
        behind = added(behind, multiplied(price, (-1, 1)))
        stored.append(behind)
    stored.reverse()
    return (tuple(here), tuple(stored), tuple(told[2 * count:]))


def best_plan(house):
    """(plan, prices): a plan without faults, and prices whose floor is its costs."""
    choices = choices_of(house)
    names = [choice[0] for choice in choices]
    costs = [choice[1] for choice in choices]
    tops = [choice[2] for choice in choices]
    rights = rights_of(house)
    first = [names.index(name) for name in first_names(house)]
    answer = solved(costs, rows_of(choices, len(rights)), rights, tops, first)
    return (plan_of(house, dict(zip(names, answer[1]))), prices_of(house, answer[2]))
