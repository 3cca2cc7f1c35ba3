"""A desk: keeps a house, and keepers by their names, and answers lines by lines."""

from sunstore.best import best_plan
from sunstore.costs import costs
from sunstore.errors import NoKeeper, NoLine, NoText
from sunstore.fractions import read_fraction, written
from sunstore.keepers import day_of
from sunstore.ranks import ranks
from sunstore.reading import read
from sunstore.rules import read_keeper, shown_keeper
from sunstore.showing import shown

MOST_SUN = 1000000
MOST_LETTERS = 8
LETTERS = "abcdefghijklmnopqrstuvwxyz"
KEEPER_WORDS = ("keeper", "drop", "day", "costs")


def is_name(word):
    """True where the word is a name."""
    return 0 < len(word) <= MOST_LETTERS and all([sign in LETTERS for sign in word])


def fractions_line(parts):
    """Fractions, parted by blanks."""
    return " ".join([written(one) for one in parts])


def best_lines(house):
    """The one line of the best plan's costs."""
    return [fractions_line(costs(house, best_plan(house)[0]))]


def day_lines(plan):
    """A line for each hour of a plan."""
    lines = []
    for number, deeds in enumerate(plan):
        told = fractions_line(deeds[:5] + deeds[5])
        lines.append(f"hour {number} {told}")
    return lines


def rank_lines(house, keepers):
    """A line for each keeper, in the order of their ranks; keepers are a dict by their names."""
    names = list(keepers)
    lines = []
    for entry in ranks(house, list(keepers.values())):
        told = fractions_line(entry[1] + entry[2])
        name = names[entry[0]]
        lines.append(f"{name} {told}")
    return lines


def raised_house(house, words):
    """The house with more sun as the two words, an hour and a number, tell; None where they tell nothing."""
    hours = [written((number, 1)) for number in range(len(house[0]))]
    more = read_fraction(words[1])
    if words[0] not in hours or more is None or more[1] != 1 or more[0] < 0:
        return None
    number = hours.index(words[0])
    hour = house[0][number]
    sun = hour[0] + more[0]
    if sun > MOST_SUN:
        return None
    return (house[0][:number] + ((sun,) + hour[1:],) + house[0][number + 1:],) + house[1:]


class Desk:
    """Keeps the house of the lines; NoText where they are no house's text."""

    def __init__(self, lines):
        self.house = read(lines)
        # By names, in the order in which they were made.
        self.keepers = {}

    def say(self, line):
        """The lines that answer a line; NoLine where it is none that a desk answers, NoKeeper where a name has none."""
        words = line.split(" ")
        if line == "show":
            return shown(self.house)
        if line == "best":
            return best_lines(self.house)
        if line == "ranks":
            return rank_lines(self.house, self.keepers)
        if words[0] == "raised" and len(words) == 3:
            return self.say_raised(line, words[1:])
        if len(words) == 1 or not is_name(words[1]):
            raise NoLine(line)
        if words[0] == "rule":
            return self.say_rule(line, words[1], " ".join(words[2:]))
        if words[0] in KEEPER_WORDS and len(words) == 2:
            return self.say_keeper(words[0], words[1])
        raise NoLine(line)

    def say_raised(self, line, words):
        """The best plan's costs with more sun in an hour."""
        house = raised_house(self.house, words)
        if house is None:
            raise NoLine(line)
        return best_lines(house)

    def say_rule(self, line, name, rule):
        """Puts a rule at the end of the name's keeper."""
        lines = shown_keeper(self.keepers.get(name, ()))
        # Read behind those above it, so that a rule too many can't stand either.
        try:
            keeper = read_keeper(lines + [rule])
        except NoText:
            raise NoLine(line) from None
        self.keepers[name] = keeper
        return ["ok"]

    def say_keeper(self, word, name):
        """Answers a word that asks for the name's keeper."""
        keeper = self.keepers.get(name)
        if keeper is None:
            raise NoKeeper(name)
        if word == "drop":
            self.keepers.pop(name)
            return ["ok"]
        if word == "keeper":
            return shown_keeper(keeper)
        plan = day_of(self.house, keeper)
        if word == "day":
            return day_lines(plan)
        return [fractions_line(costs(self.house, plan))]
