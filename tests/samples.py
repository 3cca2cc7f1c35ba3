"""Houses, plans, prices, problems and keepers to try the program with, and the oracle's own reckoning of them."""

from fractions import Fraction
import random

from sunstore.errors import NoText, StoreError

FULL = 1000000
NAMES = ["a", "wash", "dark", "work", "zzzzzzzz", "heat", "hour", "cook"]

# (house, its text), by hand: the least, one with everything, and one with all numbers at their bounds.
LEAST = (
    (((0, 0, None),), (0, 0, 0, 0, (1, 1), (1, 1), 0), ()),
    ["store 0 0 0 0 1 1 0", "hour 0 0 dark"],
)
DAY = (
    (
        ((0, 3, (30, 20, 10, 5)), (12, 4, None), (9, 2, (-7, 1, -8, 40)), (0, 6, (0, 0, 0, 0))),
        (20, 5, 6, 7, (9, 10), (19, 20), 4),
        (("wash", 8, 1, 2, 5), ("a", 3, 0, 3, 1)),
    ),
    [
        "store 20 5 6 7 9/10 19/20 4",
        "hour 0 3 line 30 20 10 5",
        "hour 12 4 dark",
        "hour 9 2 line -7 1 -8 40",
        "hour 0 6 line 0 0 0 0",
        "work wash 8 1 2 5",
        "work a 3 0 3 1",
    ],
)
BOUNDS = (
    (
        ((FULL, FULL, (FULL, FULL, FULL, FULL)), (0, 0, (-FULL, 0, -FULL, 0)), (FULL, 0, None)),
        (FULL, FULL, FULL, FULL, (1, 1000), (999, 1000), FULL),
        (("abcdefgh", FULL, 0, 2, FULL), ("z", 0, 2, 2, 0)),
    ),
    [
        "store 1000000 1000000 1000000 1000000 1/1000 999/1000 1000000",
        "hour 1000000 1000000 line 1000000 1000000 1000000 1000000",
        "hour 0 0 line -1000000 0 -1000000 0",
        "hour 1000000 0 dark",
        "work abcdefgh 1000000 0 2 1000000",
        "work z 0 2 2 0",
    ],
)


def amount(source):
    return source.choice([0, 1, 7, 10, source.randint(0, 40), source.randint(0, FULL), FULL])


def price(source):
    return source.choice([0, 5, -5, source.randint(-40, 40), source.randint(-FULL, FULL), FULL, -FULL])


def share(source):
    bottom = source.choice([1, 2, 10, 997, 1000, source.randint(1, 1000)])
    return pair(Fraction(source.randint(1, bottom), bottom))


def some_hour(source):
    line = None
    if source.random() < 0.7:
        line = (price(source), amount(source), price(source), amount(source))
    return (amount(source), amount(source), line)


def some_works(source, count, hours):
    works = []
    for name in source.sample(NAMES, count):
        first = source.randrange(hours)
        works.append((name, amount(source), first, source.randrange(first, hours), amount(source)))
    return tuple(works)


def some_house(source, hours, works):
    size = amount(source)
    start = source.choice([0, size, source.randint(0, size)])
    store = (size, start, amount(source), amount(source), share(source), share(source), amount(source))
    return (tuple(some_hour(source) for _ in range(hours)), store, some_works(source, works, hours))


def some_houses():
    """Houses by hand, and of each count of hours and works some by a fixed seed."""
    source = random.Random(8)
    houses = [LEAST[0], DAY[0], BOUNDS[0]]
    for hours in range(1, 25):
        for works in range(7):
            houses.append(some_house(source, hours, works))
    return houses


def text_of(house):
    """The oracle's text of a house."""
    hours, store, works = house
    size, start, fill, take, kept, left, end = store
    lines = [f"store {size} {start} {fill} {take} {Fraction(*kept)} {Fraction(*left)} {end}"]
    for sun, need, line in hours:
        if line is None:
            lines.append(f"hour {sun} {need} dark")
        else:
            lines.append("hour %d %d line %d %d %d %d" % ((sun, need) + line))
    for work in works:
        lines.append("work %s %d %d %d %d" % work)
    return lines


def pair(one):
    """The oracle's fraction as the program tells it."""
    return (one.numerator, one.denominator)


def some_part(source, most):
    """A fraction that is nought, at its most, between, a little beyond, or below nought."""
    little = Fraction(1, source.choice([2, 7, 1000, 10 ** 40, 10 ** 359]))
    return pair(source.choice([
        Fraction(0), Fraction(most), Fraction(most) * Fraction(source.randint(0, 12), 12),
        most + little, most - little, -little, Fraction(source.randint(-50, 50), source.randint(1, 30)),
    ]))


def some_plan(source, house):
    """A plan of a house, mostly with faults."""
    hours, store, works = house
    plan = []
    for number, (sun, need, line) in enumerate(hours):
        bought, given = (0, 0) if line is None else (line[1], line[3])
        worked = tuple(some_part(source, work[4] if work[2] <= number <= work[3] else 0) for work in works)
        mosts = (bought, given, store[2], store[3], need)
        plan.append(tuple(some_part(source, most) for most in mosts) + (worked,))
    return tuple(plan)


def idle_plan(house):
    """The plan without faults that lacks all that the sun leaves of the need, and does nothing."""
    nought = (0, 1)
    worked = tuple(nought for _ in house[2])
    return tuple((nought, nought, nought, nought, (max(need - sun, 0), 1), worked) for sun, need, _ in house[0])


def some_plans():
    """(house, plan): idle plans and plans by a fixed seed."""
    source = random.Random(13)
    pairs = []
    for house in some_houses():
        pairs.append((house, idle_plan(house)))
        pairs.append((house, some_plan(source, house)))
    return pairs


def parts_of(deeds):
    """The five fractions and the list of works' fractions of a plan's hour, as the oracle's."""
    return [Fraction(*one) for one in deeds[:5]] + [[Fraction(*one) for one in deeds[5]]]


def ledger_of(house, plan):
    """The oracle's ledger: a list of (spilt, lost, level)."""
    hours, store, _ = house
    level = Fraction(store[1])
    kept, left = Fraction(*store[4]), Fraction(*store[5])
    entries = []
    for (sun, need, _), deeds in zip(hours, plan):
        bought, given, filled, taken, lacked, worked = parts_of(deeds)
        level += kept * filled - taken
        spilt = sun + bought + lacked + left * taken - (need + given + filled + sum(worked))
        entries.append((spilt, (1 - kept) * filled + (1 - left) * taken, level))
    return entries


def faults_of(house, plan):
    """The oracle's faults."""
    hours, store, works = house
    found = set()
    totals = [0 for _ in works]
    for t, ((sun, need, line), deeds, entry) in enumerate(zip(hours, plan, ledger_of(house, plan))):
        bought, given, filled, taken, lacked, worked = parts_of(deeds)
        if line is None and bought != 0 or line is not None and not 0 <= bought <= line[1]:
            found.add(("buy", t))
        if line is None and given != 0 or line is not None and not 0 <= given <= line[3]:
            found.add(("give", t))
        if not 0 <= filled <= store[2]:
            found.add(("fill", t))
        if not 0 <= taken <= store[3]:
            found.add(("take", t))
        if not 0 <= lacked <= need:
            found.add(("lack", t))
        if not 0 <= entry[2] <= store[0]:
            found.add(("level", t))
        if entry[0] < 0:
            found.add(("spill", t))
        for j, (name, todo, first, last, most) in enumerate(works):
            totals[j] += worked[j]
            inside = first <= t <= last
            if inside and not 0 <= worked[j] <= most or not inside and worked[j] != 0:
                found.add(("work", t, j))
    for j, work in enumerate(works):
        if totals[j] > work[1]:
            found.add(("done", j))
    return sorted(found)


def costs_of(house, plan):
    """The oracle's costs."""
    hours, store, works = house
    lacked = sum(Fraction(*deeds[4]) for deeds in plan)
    undone = sum(work[1] for work in works) - sum(Fraction(*one) for deeds in plan for one in deeds[5])
    coins = -store[6] * ledger_of(house, plan)[-1][2]
    for (_, _, line), deeds in zip(hours, plan):
        if line is not None:
            coins += line[0] * Fraction(*deeds[0]) - line[2] * Fraction(*deeds[1])
    return (lacked, undone, coins)


def kinds(value):
    """The kinds of a value and of all that is in it."""
    if type(value) in (list, tuple):
        return (type(value), [kinds(part) for part in value])
    return type(value)


def some_day(source, hours, works):
    """A house of small numbers, in which each bound is often met."""
    rows = []
    for _ in range(hours):
        line = None
        if source.random() < 0.7:
            line = (source.randint(-9, 30), source.randint(0, 12), source.randint(-9, 25), source.randint(0, 9))
        rows.append((source.randint(0, 9), source.randint(0, 9), line))
    size = source.choice([0, 4, 10, 30])
    start = source.choice([0, size, size // 2])
    shares = [source.choice([(1, 1), (9, 10), (1, 2), share(source)]) for _ in range(2)]
    store = (size, start, source.randint(0, 9), source.randint(0, 9), *shares, source.choice([0, 3, 20]))
    windows = [sorted([source.randrange(hours), source.randrange(hours)]) for _ in range(works)]
    names = source.sample(NAMES, works)
    return (tuple(rows), store, tuple(
        (name, source.randint(0, 12), first, last, source.randint(0, 5)) for name, (first, last) in zip(names, windows)
    ))


def some_days():
    """Houses of one to several hours with none to two works, and some long ones, by a fixed seed."""
    source = random.Random(22)
    days = [some_day(source, 1 + number % 6, number % 3) for number in range(180)]
    return days + [some_day(source, 24, works) for works in range(7)]


def some_portion(source, most):
    """A fraction from 0 to most, most of them at one of its ends."""
    return most * source.choice([0, 1, 1, Fraction(source.randint(0, 6), 6)])


def good_plan(source, house):
    """A plan without faults, made hour by hour; what is done in an hour is drawn in an order of its own."""
    hours, (size, start, fill, take, kept, left, _), works = house
    kept, left, level = Fraction(*kept), Fraction(*left), Fraction(start)
    undone = [Fraction(work[1]) for work in works]
    plan = []
    for number, (sun, need, line) in enumerate(hours):
        buy, give = (0, 0) if line is None else (line[1], line[3])
        bought = some_portion(source, Fraction(buy))
        taken = some_portion(source, min(Fraction(take), level))
        rest = sun + bought + left * taken - need
        lacked = max(-rest, Fraction(0))
        # To lack more than one has to is no fault.
        if source.random() < 0.1:
            lacked += some_portion(source, need - lacked)
        rest += lacked
        deeds = {"given": Fraction(0), "filled": Fraction(0)}
        mosts = {"given": Fraction(give), "filled": min(Fraction(fill), (size - level + taken) / kept)}
        for j, (_, _, first, last, most) in enumerate(works):
            deeds[j], mosts[j] = Fraction(0), min(Fraction(most), undone[j]) if first <= number <= last else Fraction(0)
        for deed in source.sample(list(deeds), len(deeds)):
            deeds[deed] = some_portion(source, min(mosts[deed], rest))
            rest -= deeds[deed]
        undone = [one - deeds[j] for j, one in enumerate(undone)]
        level += kept * deeds["filled"] - taken
        row = (bought, deeds["given"], deeds["filled"], taken, lacked)
        plan.append(tuple(pair(one) for one in row) + (tuple(pair(deeds[j]) for j in range(len(works))),))
    return tuple(plan)


def some_triple(source, number):
    return tuple(pair(Fraction(number(source))) for _ in range(3))


def some_prices(source, house, number):
    """Prices of a house that aren't refused, parts of either sign."""
    zero = pair(Fraction(0))
    here = []
    for _ in house[0]:
        triple = some_triple(source, number)
        top, bottom = next((one for one in triple if one != zero), zero)
        here.append(triple if top >= 0 else tuple((-one, other) for one, other in triple))
    stored = [some_triple(source, number) for _ in house[0]]
    done = [some_triple(source, number) for _ in house[2]]
    return (tuple(here), tuple(stored), tuple(done))


def combined(terms):
    """The sum of triples, each with what it is multiplied by ahead of it; parts are the oracle's fractions."""
    return tuple(sum((Fraction(by) * triple[part] for by, triple in terms), Fraction(0)) for part in range(3))


def triples_of(told):
    """Told triples as the oracle's."""
    return [tuple(Fraction(*one) for one in triple) for triple in told]


def rests_of(house, prices):
    """The oracle's rests of a house's prices: (name, most, rest) for each choice but spilling."""
    hours, (size, _, fill, take, kept, left, end), works = house
    here, stored, done = [triples_of(part) for part in prices]
    found = []
    for t, (_, need, line) in enumerate(hours):
        p, q = here[t], stored[t]
        later = stored[t + 1] if t + 1 < len(hours) else (0, 0, end)
        if line is not None:
            found.append((("buy", t), line[1], combined([(1, (0, 0, line[0])), (-1, p)])))
            found.append((("give", t), line[3], combined([(1, p), (-1, (0, 0, line[2]))])))
        found.append((("fill", t), fill, combined([(1, p), (-Fraction(*kept), q)])))
        found.append((("take", t), take, combined([(1, q), (-Fraction(*left), p)])))
        found.append((("lack", t), need, combined([(1, (1, 0, 0)), (-1, p)])))
        found.append((("level", t), size, combined([(1, q), (-1, later)])))
    for j, (_, todo, first, last, most) in enumerate(works):
        for t in range(first, last + 1):
            found.append((("work", t, j), most, combined([(1, here[t]), (-1, done[j])])))
        found.append((("undone", j), todo, combined([(1, (0, 1, 0)), (-1, done[j])])))
    return found


def floor_by_rules(house, prices):
    """The oracle's floor of a house's prices, or the number of the first hour by which they are refused."""
    hours, store, works = house
    here, stored, done = [triples_of(part) for part in prices]
    for t, triple in enumerate(here):
        if triple < (0, 0, 0):
            return t
    terms = [(need - sun, triple) for (sun, need, _), triple in zip(hours, here)] + [(-store[1], stored[0])]
    terms += [(work[1], triple) for work, triple in zip(works, done)]
    return combined(terms + [(most, rest) for _, most, rest in rests_of(house, prices) if rest < (0, 0, 0)])


def small_number(source):
    return source.randint(-6, 6)


def scarce_number(source):
    """Mostly nought, so that second and third parts count."""
    return source.choice([0, 0, 0, small_number(source)])


def broken_number(source):
    return Fraction(source.randint(-30, 30), source.randint(1, 12))


def unlike_number(source):
    """Nought, great and small numbers of either sign."""
    return source.choice([0, 1, -1, Fraction(1, 10 ** 60), -10 ** 60, Fraction(-7, 10 ** 59 + 9), 10 ** 60 + 7,
                          Fraction(source.randint(-10 ** 30, 10 ** 30), source.randint(1, 10 ** 30))])


def longest_number(source):
    """A fraction with tops and bottoms of up to 400 figures."""
    return Fraction(source.randint(-10 ** 400 + 1, 10 ** 400 - 1), source.randint(10 ** 399, 10 ** 400 - 1))


NUMBERS = [small_number, scarce_number, broken_number, unlike_number]


def some_problem(source, choices, rows, number, tops, rights):
    """(costs, rows, rights, tops, first) of numbers so made; tops and rights: the share that has one, that isn't 0."""
    first = source.sample(range(choices), rows)
    table = [[pair(Fraction(number(source))) for _ in range(choices)] for _ in range(rows)]
    for place, row in enumerate(table):
        for other, choice in enumerate(first):
            row[choice] = (1 if other == place else 0, 1)
    right = [abs(Fraction(number(source))) if source.random() < rights else Fraction(0) for _ in range(rows)]
    top = []
    for choice in range(choices):
        one = None
        if source.random() < tops:
            one = source.choice([Fraction(0), abs(Fraction(number(source))), abs(Fraction(number(source)))])
            if choice in first:
                one = max(one, right[first.index(choice)])
        top.append(one)
    costs = [some_triple(source, number) for _ in range(choices)]
    # Where first parts are alike the second and third ones count.
    for choice in range(choices):
        count = source.choice([0, 0, 1, 2])
        costs[choice] = ((0, 1),) * count + costs[choice][count:]
    return (costs, table, [pair(one) for one in right], [None if one is None else pair(one) for one in top], first)


def some_problems():
    """Problems of no rows and of several, with tops and without, with rights of nought and others, by a fixed seed."""
    source = random.Random(18)
    problems = []
    for choices, rows in [(1, 0), (1, 1), (2, 1), (4, 0), (5, 2), (6, 3), (8, 3), (12, 4), (15, 6)]:
        for number in NUMBERS:
            for tops in (0, 0.5, 1):
                for rights in (0, 0.6, 1):
                    problems.append(some_problem(source, choices, rows, number, tops, rights))
    problems.append(some_problem(source, 5, 2, longest_number, 1, 1))
    problems.append(some_problem(source, 4, 2, longest_number, 0.5, 1))
    return problems


def is_mix_by_rules(rows, rights, tops, mix):
    """The oracle's answer if it is a mix."""
    parts = [Fraction(*one) for one in mix]
    if any(part < 0 or top is not None and part > Fraction(*top) for part, top in zip(parts, tops)):
        return False
    sums = [sum(Fraction(*number) * part for number, part in zip(row, parts)) for row in rows]
    return sums == [Fraction(*right) for right in rights]


def sum_by_rules(costs, mix):
    """The oracle's sum of a mix."""
    return combined([(Fraction(*part), triple) for part, triple in zip(mix, triples_of(costs))])


def rests_by_rules(costs, rows, prices):
    """The oracle's rests of a problem's prices."""
    told = []
    for choice, triple in enumerate(triples_of(costs)):
        terms = [(-Fraction(*row[choice]), price) for row, price in zip(rows, triples_of(prices))]
        told.append(combined([(1, triple)] + terms))
    return told


def problem_floor(costs, rows, rights, tops, prices):
    """The oracle's floor of a problem's prices, or None."""
    terms = [(Fraction(*right), price) for right, price in zip(rights, triples_of(prices))]
    for rest, top in zip(rests_by_rules(costs, rows, prices), tops):
        if rest < (0, 0, 0):
            if top is None:
                return None
            terms.append((Fraction(*top), rest))
    return combined(terms)


def paired(triple):
    """The oracle's triple as the program tells it."""
    return tuple(pair(Fraction(one)) for one in triple)


def refused_at(case, reader, lines, place):
    """The reader refuses the lines at this place, and they stay as they are."""
    before = list(lines)
    with case.assertRaises(NoText, msg=lines) as refusal:
        reader(lines)
    case.assertEqual(refusal.exception.place, place, lines)
    case.assertIs(type(refusal.exception.place), int)
    case.assertIsInstance(refusal.exception, StoreError)
    case.assertEqual(lines, before)


FILLS = ("none", "sun", "line")
TAKES = ("none", "need", "give")
WORKS = ("now", "wait")
# A keeper for each three words, of one rule that is always used.
PLAIN_KEEPERS = [(((), fill, take, works),) for fill in FILLS for take in TAKES for works in WORKS]


def some_test(source, house):
    """A test whose number is often one of the house's own, or beside it."""
    word = source.choice(["from", "till", "over", "under", "dear", "cheap", "dark", "sunny"])
    if word in ("dark", "sunny"):
        return (word,)
    if word in ("dear", "cheap"):
        prices = [line[0] for _, _, line in house[0] if line is not None]
        number = source.choice(prices + [0]) + source.choice([-1, 0, 0, 1])
        return (word, source.choice([max(-FULL, min(FULL, number)), source.randint(-FULL, FULL), FULL, -FULL]))
    near = source.randrange(len(house[0]))
    if word in ("over", "under"):
        near = source.choice([house[1][0], house[1][1], source.randint(0, house[1][0])])
    return (word, source.choice([near, near, near, 0, 1, source.randint(0, FULL), FULL]))


def some_keeper(source, house, rules, tests):
    """A keeper of so many rules of so many tests, or of any number of them where tests is None."""
    told = []
    for _ in range(rules):
        count = source.choice([0, 1, 1, 1, 2, 3, 6]) if tests is None else tests
        words = (source.choice(FILLS), source.choice(TAKES), source.choice(WORKS))
        told.append((tuple(some_test(source, house) for _ in range(count)),) + words)
    return tuple(told)


def some_keepers(source, house):
    """Keepers for a house: of no rules, of a few and of twenty, of rules of one test or any number of them."""
    counts = [(0, 0), (1, 1), (3, 1), (4, None), (20, None)]
    return [some_keeper(source, house, rules, tests) for rules, tests in counts]


def kept_days():
    """(house, keepers): each house with keepers made for it, and some of those for any house, by a fixed seed."""
    source = random.Random(28)
    return [(house, some_keepers(source, house) + source.sample(PLAIN_KEEPERS, 3))
            for house in some_days() + some_houses()]


def keeper_text(keeper):
    """The oracle's text of a keeper."""
    lines = []
    for tests, fill, take, works in keeper:
        told = "".join(" " + " ".join(str(part) for part in test) for test in tests)
        lines.append(f"when{told} fill {fill} take {take} works {works}")
    return lines


def holds_by_rules(test, number, hour, level):
    """The oracle's answer if a test holds."""
    sun, need, line = hour
    price = None if line is None else line[0]
    answers = {
        "from": lambda n: number >= n, "till": lambda n: number <= n, "over": lambda n: level > n,
        "under": lambda n: level < n, "dear": lambda n: price is not None and price >= n,
        "cheap": lambda n: price is not None and price <= n, "dark": lambda: price is None,
        "sunny": lambda: not sun < need,
    }
    return answers[test[0]](*test[1:])


def rule_by_rules(keeper, number, hour, level):
    """The oracle's answer which rule is used in an hour."""
    fitting = [rule for rule in keeper if all(holds_by_rules(test, number, hour, level) for test in rule[0])]
    return (fitting + [((), "sun", "need", "wait")])[0]


def wishes_by_rules(works, number, undone, word):
    """The oracle's wishes of the works in an hour."""
    wishes = []
    for (_, _, first, last, most), rest in zip(works, undone):
        must = rest if word == "now" else max(Fraction(0), rest - most * (last - number))
        wishes.append(min(must, Fraction(most)) if first <= number <= last else Fraction(0))
    return wishes


def hour_by_rules(house, number, level, undone, rule):
    """The oracle's hour of a plan by the words of a rule, step by step."""
    (sun, need, line), (size, _, fill, take, kept, left, _) = house[0][number], house[1]
    kept, left = Fraction(*kept), Fraction(*left)
    buy, give = (0, 0) if line is None else (line[1], line[3])
    out = 0 if rule[2] == "none" else left * min(level, take)
    can = sun + buy + out
    met = min(Fraction(need), can)
    can -= met
    worked = []
    for wish in wishes_by_rules(house[2], number, undone, rule[3]):
        worked.append(min(wish, can))
        can -= worked[-1]
    # What is used beyond the sun, beyond what comes out too.
    wanted = met + sum(worked)
    sun_left = max(Fraction(0), sun - wanted)
    wanted -= min(wanted, sun)
    came_out = min(wanted, out)
    bought = wanted - came_out
    given = min(out - came_out, give) if rule[2] == "give" else Fraction(0)
    taken = (came_out + given) / left
    filled = Fraction(0)
    if taken == 0 and rule[1] in ("sun", "line"):
        room = min(fill, (size - level) / kept)
        filled = min(sun_left, room)
        sun_left -= filled
        if rule[1] == "line":
            more = min(room - filled, buy - bought)
            filled, bought = filled + more, bought + more
    given += min(sun_left, give - given)
    return tuple(pair(one) for one in map(Fraction, (bought, given, filled, taken, need - met))) + (
        tuple(pair(one) for one in worked),)


def day_by_rules(house, keeper):
    """The oracle's day of a keeper."""
    level = Fraction(house[1][1])
    undone = [Fraction(work[1]) for work in house[2]]
    plan = []
    for number, hour in enumerate(house[0]):
        rule = rule_by_rules(keeper, number, hour, level)
        plan.append(hour_by_rules(house, number, level, undone, rule))
        _, _, filled, taken, _, worked = parts_of(plan[-1])
        level += Fraction(*house[1][4]) * filled - taken
        undone = [rest - part for rest, part in zip(undone, worked)]
    return tuple(plan)


def ranks_by_rules(house, keepers, least):
    """The oracle's ranks of keepers, as the program tells them; least are the best plan's costs."""
    days = [costs_of(house, day_by_rules(house, keeper)) for keeper in keepers]
    order = sorted(range(len(keepers)), key=lambda number: (days[number], number))
    return [(number, paired(days[number]), paired(combined([(1, days[number]), (-1, least)]))) for number in order]
