"""Houses, their texts and plans to try the program with, and the oracle's own reckoning of them."""

from fractions import Fraction
import random

FULL = 1000000
NAMES = ["a", "wash", "dark", "work", "zzzzzzzz", "heat", "hour", "cook"]

# (house, its text), by hand: the least, one with everything, and one with all numbers at their bounds.
LEAST = (
    (((0, 0, None),), (0, 0, 0, 0, (1, 1), (1, 1), 0), ()),
    ["store 0 0 0 0 1 1 0", "hour 0 0 dark"],
)
DAY = (
    (
        ((0, 3, (30, 20, 10, 5)), (12, 4, None), (9, 2, (-7, 1, -8, 40)), (0, 6, (0, 0, 0, 0))),
        (20, 5, 6, 7, (9, 10), (19, 20), 4),
        (("wash", 8, 1, 2, 5), ("a", 3, 0, 3, 1)),
    ),
    [
        "store 20 5 6 7 9/10 19/20 4",
        "hour 0 3 line 30 20 10 5",
        "hour 12 4 dark",
        "hour 9 2 line -7 1 -8 40",
        "hour 0 6 line 0 0 0 0",
        "work wash 8 1 2 5",
        "work a 3 0 3 1",
    ],
)
BOUNDS = (
    (
        ((FULL, FULL, (FULL, FULL, FULL, FULL)), (0, 0, (-FULL, 0, -FULL, 0)), (FULL, 0, None)),
        (FULL, FULL, FULL, FULL, (1, 1000), (999, 1000), FULL),
        (("abcdefgh", FULL, 0, 2, FULL), ("z", 0, 2, 2, 0)),
    ),
    [
        "store 1000000 1000000 1000000 1000000 1/1000 999/1000 1000000",
        "hour 1000000 1000000 line 1000000 1000000 1000000 1000000",
        "hour 0 0 line -1000000 0 -1000000 0",
        "hour 1000000 0 dark",
        "work abcdefgh 1000000 0 2 1000000",
        "work z 0 2 2 0",
    ],
)


def amount(source):
    return source.choice([0, 1, 7, 10, source.randint(0, 40), source.randint(0, FULL), FULL])


def price(source):
    return source.choice([0, 5, -5, source.randint(-40, 40), source.randint(-FULL, FULL), FULL, -FULL])


def share(source):
    bottom = source.choice([1, 2, 10, 997, 1000, source.randint(1, 1000)])
    return pair(Fraction(source.randint(1, bottom), bottom))


def some_hour(source):
    line = None
    if source.random() < 0.7:
        line = (price(source), amount(source), price(source), amount(source))
    return (amount(source), amount(source), line)


def some_works(source, count, hours):
    works = []
    for name in source.sample(NAMES, count):
        first = source.randrange(hours)
        works.append((name, amount(source), first, source.randrange(first, hours), amount(source)))
    return tuple(works)


def some_house(source, hours, works):
    size = amount(source)
    start = source.choice([0, size, source.randint(0, size)])
    store = (size, start, amount(source), amount(source), share(source), share(source), amount(source))
    return (tuple(some_hour(source) for _ in range(hours)), store, some_works(source, works, hours))


def some_houses():
    """Houses by hand, and of each count of hours and works some by a fixed seed."""
    source = random.Random(8)
    houses = [LEAST[0], DAY[0], BOUNDS[0]]
    for hours in range(1, 25):
        for works in range(7):
            houses.append(some_house(source, hours, works))
    return houses


def text_of(house):
    """The oracle's text of a house."""
    hours, store, works = house
    size, start, fill, take, kept, left, end = store
    lines = [f"store {size} {start} {fill} {take} {Fraction(*kept)} {Fraction(*left)} {end}"]
    for sun, need, line in hours:
        if line is None:
            lines.append(f"hour {sun} {need} dark")
        else:
            lines.append("hour %d %d line %d %d %d %d" % ((sun, need) + line))
    for work in works:
        lines.append("work %s %d %d %d %d" % work)
    return lines


def pair(one):
    """The oracle's fraction as the program tells it."""
    return (one.numerator, one.denominator)


def some_part(source, most):
    """A fraction that is nought, at its most, between, a little beyond, or below nought."""
    little = Fraction(1, source.choice([2, 7, 1000, 10 ** 40, 10 ** 359]))
    return pair(source.choice([
        Fraction(0), Fraction(most), Fraction(most) * Fraction(source.randint(0, 12), 12),
        most + little, most - little, -little, Fraction(source.randint(-50, 50), source.randint(1, 30)),
    ]))


def some_plan(source, house):
    """A plan of a house, mostly with faults."""
    hours, store, works = house
    plan = []
    for number, (sun, need, line) in enumerate(hours):
        bought, given = (0, 0) if line is None else (line[1], line[3])
        worked = tuple(some_part(source, work[4] if work[2] <= number <= work[3] else 0) for work in works)
        mosts = (bought, given, store[2], store[3], need)
        plan.append(tuple(some_part(source, most) for most in mosts) + (worked,))
    return tuple(plan)


def idle_plan(house):
    """The plan without faults that lacks all that the sun leaves of the need, and does nothing."""
    nought = (0, 1)
    worked = tuple(nought for _ in house[2])
    return tuple((nought, nought, nought, nought, (max(need - sun, 0), 1), worked) for sun, need, _ in house[0])


def some_plans():
    """(house, plan): idle plans and plans by a fixed seed."""
    source = random.Random(13)
    pairs = []
    for house in some_houses():
        pairs.append((house, idle_plan(house)))
        pairs.append((house, some_plan(source, house)))
    return pairs


def parts_of(deeds):
    """The five fractions and the list of works' fractions of a plan's hour, as the oracle's."""
    return [Fraction(*one) for one in deeds[:5]] + [[Fraction(*one) for one in deeds[5]]]


def ledger_of(house, plan):
    """The oracle's ledger: a list of (spilt, lost, level)."""
    hours, store, _ = house
    level = Fraction(store[1])
    kept, left = Fraction(*store[4]), Fraction(*store[5])
    entries = []
    for (sun, need, _), deeds in zip(hours, plan):
        bought, given, filled, taken, lacked, worked = parts_of(deeds)
        level += kept * filled - taken
        spilt = sun + bought + lacked + left * taken - (need + given + filled + sum(worked))
        entries.append((spilt, (1 - kept) * filled + (1 - left) * taken, level))
    return entries


def faults_of(house, plan):
    """The oracle's faults."""
    hours, store, works = house
    found = set()
    totals = [0 for _ in works]
    for t, ((sun, need, line), deeds, entry) in enumerate(zip(hours, plan, ledger_of(house, plan))):
        bought, given, filled, taken, lacked, worked = parts_of(deeds)
        if line is None and bought != 0 or line is not None and not 0 <= bought <= line[1]:
            found.add(("buy", t))
        if line is None and given != 0 or line is not None and not 0 <= given <= line[3]:
            found.add(("give", t))
        if not 0 <= filled <= store[2]:
            found.add(("fill", t))
        if not 0 <= taken <= store[3]:
            found.add(("take", t))
        if not 0 <= lacked <= need:
            found.add(("lack", t))
        if not 0 <= entry[2] <= store[0]:
            found.add(("level", t))
        if entry[0] < 0:
            found.add(("spill", t))
        for j, (name, todo, first, last, most) in enumerate(works):
            totals[j] += worked[j]
            inside = first <= t <= last
            if inside and not 0 <= worked[j] <= most or not inside and worked[j] != 0:
                found.add(("work", t, j))
    for j, work in enumerate(works):
        if totals[j] > work[1]:
            found.add(("done", j))
    return sorted(found)


def costs_of(house, plan):
    """The oracle's costs."""
    hours, store, works = house
    lacked = sum(Fraction(*deeds[4]) for deeds in plan)
    undone = sum(work[1] for work in works) - sum(Fraction(*one) for deeds in plan for one in deeds[5])
    coins = -store[6] * ledger_of(house, plan)[-1][2]
    for (_, _, line), deeds in zip(hours, plan):
        if line is not None:
            coins += line[0] * Fraction(*deeds[0]) - line[2] * Fraction(*deeds[1])
    return (lacked, undone, coins)


def kinds(value):
    """The kinds of a value and of all that is in it."""
    if type(value) in (list, tuple):
        return (type(value), [kinds(part) for part in value])
    return type(value)
