"""A keeper's day: the plan that its rules make hour by hour."""

from sunstore.fractions import minus, over, plus, times, under

NOUGHT = (0, 1)
# In a dark hour nothing can be bought or given, as by a line that lets nothing through.
NO_LINE = (0, 0, 0, 0)
# What is done in an hour for which a keeper has no rule.
PLAIN_RULE = ((), "sun", "need", "wait")


def lesser(one, other):
    """The lesser of two fractions."""
    return one if under(one, other) else other


def from_nought(one):
    """The fraction itself, or nought where it is below it."""
    return NOUGHT if under(one, NOUGHT) else one


def total(parts):
    """The sum of fractions."""
    told = NOUGHT
    for one in parts:
        told = plus(told, one)
    return told


def shared_out(asked, most):
    """What each of the asked gets of the most, in their order, each as far as what is left of it reaches."""
    shares = []
    rest = most
    for one in asked:
        part = lesser(one, rest)
        shares.append(part)
        rest = minus(rest, part)
    return shares


def line_holds(test, line):
    """True where a line has a price as the test asks for."""
    if line is None:
        return False
    return line[0] >= test[1] if test[0] == "dear" else line[0] <= test[1]


def holds(test, number, hour, level):
    """True where a test holds in the hour of this number, the level ahead of it being this."""
    word = test[0]
    if word == "dark":
        return hour[2] is None
    if word == "sunny":
        return hour[0] >= hour[1]
    if word == "from":
        return number >= test[1]
    if word == "till":
        return number <= test[1]
    if word == "over":
        return under((test[1], 1), level)
    if word == "under":
        return under(level, (test[1], 1))
    return line_holds(test, hour[2])


def rule_for(keeper, number, hour, level):
    """The first rule of which all tests hold."""
    for rule in keeper:
        if all([holds(test, number, hour, level) for test in rule[0]]):
            return rule
    return PLAIN_RULE


def wish_of(work, number, undone, word):
    """What is to be done of a work in the hour of this number, by its rule's word, where so much is undone."""
    if number < work[2] or number > work[3]:
        return NOUGHT
    asked = undone
    if word == "wait":
        later = work[4] * (work[3] - number)
        asked = from_nought(minus(undone, (later, 1)))
    return lesser(asked, (work[4], 1))


def out_most(store, level, word):
    """How much can come out of the store into the house, by the rule's word."""
    if word == "none":
        return NOUGHT
    return times(store[5], lesser((store[3], 1), level))


def fill_most(store, level, word, taken):
    """How much can be filled, by the rule's word, where so much is taken."""
    if word == "none" or taken != NOUGHT:
        return NOUGHT
    room = from_nought(minus((store[0], 1), level))
    return lesser((store[2], 1), over(room, store[4]))


def deeds_of(hour, store, level, rule, wishes):
    """What is done in an hour by a rule, the level ahead of it being this, and the works' wishes these."""
    line = NO_LINE if hour[2] is None else hour[2]
    sun = (hour[0], 1)
    need = (hour[1], 1)
    buy_most = (line[1], 1)
    give_most = (line[3], 1)
    out = out_most(store, level, rule[2])
    met = shared_out([need] + wishes, total([sun, buy_most, out]))
    used = shared_out([sun, out, buy_most], total(met))
    given = lesser(minus(out, used[1]), give_most) if rule[2] == "give" else NOUGHT
    taken = over(plus(used[1], given), store[5])
    sun_rest = minus(sun, used[0])
    buy_rest = minus(buy_most, used[2]) if rule[1] == "line" else NOUGHT
    filled = shared_out([sun_rest, buy_rest], fill_most(store, level, rule[1], taken))
    sun_given = lesser(minus(sun_rest, filled[0]), minus(give_most, given))
    traded = (plus(used[2], filled[1]), plus(given, sun_given))
    return traded + (total(filled), taken, minus(need, met[0]), tuple(met[1:]))


def day_of(house, keeper):
    """The plan that a keeper makes in a house."""
    store = house[1]
    level = (store[1], 1)
    undone = [(work[1], 1) for work in house[2]]
    plan = []
    for number, hour in enumerate(house[0]):
        rule = rule_for(keeper, number, hour, level)
        wishes = [wish_of(work, number, rest, rule[3]) for work, rest in zip(house[2], undone)]
        deeds = deeds_of(hour, store, level, rule, wishes)
        plan.append(deeds)
        level = minus(plus(level, times(store[4], deeds[2])), deeds[3])
        undone = [minus(rest, part) for rest, part in zip(undone, deeds[5])]
    return tuple(plan)
