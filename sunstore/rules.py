"""A keeper's text: reads it and shows it."""

from sunstore.errors import NoText
from sunstore.fractions import read_fraction, written

MOST_RULES = 20
MOST_TESTS = 6
MOST_NUMBER = 1000000
BARE_WORDS = ("dark", "sunny")
AMOUNT_WORDS = ("from", "till", "over", "under")
PRICE_WORDS = ("dear", "cheap")
FILL_WORDS = ("none", "sun", "line")
TAKE_WORDS = ("none", "need", "give")
WORK_WORDS = ("now", "wait")
# How many words of a line stand behind the tests: fill, take and works, each with its own.
DEED_WORDS = 6


def read_bound(word, least):
    """The whole number from least to MOST_NUMBER that the word writes, or None."""
    one = read_fraction(word)
    if one is None or one[1] != 1 or one[0] < least or one[0] > MOST_NUMBER:
        return None
    return one[0]


def read_test(words):
    """The test that the words begin with, or None."""
    if words[0] in BARE_WORDS:
        return (words[0],)
    bound = None
    if words[0] in AMOUNT_WORDS and len(words) > 1:
        bound = read_bound(words[1], 0)
    if words[0] in PRICE_WORDS and len(words) > 1:
        bound = read_bound(words[1], -MOST_NUMBER)
    if bound is None:
        return None
    return (words[0], bound)


def read_tests(words):
    """The tuple of tests that the words tell, or None."""
    tests = []
    place = 0
    while place < len(words):
        test = read_test(words[place:])
        if test is None or len(tests) == MOST_TESTS:
            return None
        tests.append(test)
        # A test has a word for each of its parts.
        place = place + len(test)
    return tuple(tests)


def read_deeds(words):
    """The tuple (fill, take, works) that a line's last words tell, or None."""
    if words[0::2] != ["fill", "take", "works"]:
        return None
    deeds = tuple(words[1::2])
    if deeds[0] not in FILL_WORDS or deeds[1] not in TAKE_WORDS or deeds[2] not in WORK_WORDS:
        return None
    return deeds


def read_rule(line):
    """The rule that a line tells, or None."""
    # A split at each single blank leaves an empty word beside every blank too many, which no reader takes.
    words = line.split(" ")
    if words[0] != "when" or len(words) <= DEED_WORDS:
        return None
    tests = read_tests(words[1:-DEED_WORDS])
    deeds = read_deeds(words[-DEED_WORDS:])
    if tests is None or deeds is None:
        return None
    return (tests,) + deeds


def read_keeper(lines):
    """The keeper of which the lines are the text; NoText with the number of the first line that can't stand."""
    rules = []
    for place, line in enumerate(lines):
        rule = read_rule(line)
        if rule is None or place == MOST_RULES:
            raise NoText(place)
        rules.append(rule)
    return tuple(rules)


def rule_line(rule):
    """The line of a rule."""
    words = ["when"]
    for test in rule[0]:
        words.append(test[0])
        words.extend([written((bound, 1)) for bound in test[1:]])
    return " ".join(words + ["fill", rule[1], "take", rule[2], "works", rule[3]])


def shown_keeper(keeper):
    """The lines of a keeper's text."""
    return [rule_line(rule) for rule in keeper]
