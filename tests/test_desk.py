"""Point 33: a desk keeps a house and keepers by names, and answers lines by lines."""

import copy
from fractions import Fraction
import functools
import random
import re
import unittest

from samples import (
    BOUNDS, DAY, FULL, LEAST, PLAIN_KEEPERS, costs_of, day_by_rules, keeper_text, kinds, ranks_by_rules, refused_at,
    some_day, some_days, some_keeper, text_of,
)
from sunstore.best import best_plan
from sunstore.desk import Desk
from sunstore.errors import NoKeeper, NoLine, NoText, StoreError
from sunstore.rules import read_keeper

HOUSE = DAY[1]
PLAIN = "when fill sun take need works wait"
SPARE = "when dark over 3 fill none take give works now"
BUY = "when cheap -7 fill line take none works now"
NAMES = ["a", "aa", "aaa", "ab", "b", "zzzzzzzz", "abcdefgh", "rule", "keeper", "drop", "day", "costs", "best", "ranks",
         "raised", "show", "when", "fill", "ok", "hour", "dark", "none"]
NO_NAMES = ["", "A", "aB", "abcdefghi", "a1", "1", "a-b", "a_b", "a.", "a,b", "-", "/", "{", "`", "@", "~"]
# Lines that no desk answers, whatever its house and its keepers.
NEVER = [
    "", " ", "  ", "x", "Show", "SHOW", " show", "show ", "show  ", "show show", "show a", "sho", "shows", "show.",
    "best ", " best", "best 1", "best best", "best a", "Best", "ranks ", " ranks", "ranks a", "Ranks", "ranks ranks",
    "rank", "keeper", "keeper ", "keeper  a", " keeper a", "keeper a ", "keeper a a", "keeper a b", "Keeper a",
    "keepers a", "drop", "drop ", "drop  a", " drop a", "drop a ", "drop a a", "Drop a", "drops a", "day", "day ",
    "day  a", " day a", "day a ", "day a 0", "day a a", "Day a", "days a", "costs", "costs ", "costs  a", " costs a",
    "costs a ", "costs a a", "Costs a", "cost a", "rule", "rule ", "rule a", "rule a ", "rule a when",
    "rule a  " + PLAIN, "rule  a " + PLAIN, " rule a " + PLAIN, "rule a " + PLAIN + " ", "Rule a " + PLAIN,
    "rules a " + PLAIN, "rule " + PLAIN, PLAIN, "rule a a " + PLAIN, "rule a x", "rule a " + PLAIN + " " + PLAIN,
    "rule a when fill sun take need works", "rule a when fill sun take need works Wait",
    "rule a When fill sun take need works wait",
    "rule a when dark sunny dark sunny dark sunny dark fill sun take need works wait",
    "rule a when over 01 fill sun take need works wait", "rule a when over -1 fill sun take need works wait",
    "rule a when over 1000001 fill sun take need works wait", "rule a when over 1/2 fill sun take need works wait",
    "rule a fill sun take need works wait", "rule a show", "rule a ok", "raised", "raised ", "raised 0", "raised 0 ",
    "raised 0 1 ", " raised 0 1", "raised  0 1", "raised 0  1", "raised 0 1 1", "raised a 1", "raised 0 a",
    "Raised 0 1", "raise 0 1", "raised 00 1", "raised 0 01", "raised +0 1", "raised 0 +1", "raised -0 1",
    "raised 0 -0", "raised -1 1", "raised 0 -1", "raised 0 1/2", "raised 0/1 1", "raised 0 2/1", "raised 0 1.0",
    "raised 0 1e3", "raised 0 1000001", "raised 24 1", "raised 24 0", "raised 0 " + "9" * 60, "raised 0 " + "9" * 61,
    "raised " + "9" * 60 + " 1", "raised 0x0 1", "raised 0 1_0", "hour 0", "ok", "store 0 0 0 0 1 1 0", "show,", "0",
    "a", "rule a,b " + PLAIN,
]
NEVER += [f"{word} {name}" for word in ("keeper", "drop", "day", "costs") for name in NO_NAMES]
NEVER += [f"rule {name} {PLAIN}" for name in NO_NAMES]


def parted(parts):
    """Fractions parted by blanks."""
    return " ".join(str(Fraction(*one)) for one in parts)


@functools.lru_cache(maxsize=None)
def least_of(house):
    """The best plan's costs."""
    return costs_of(house, best_plan(house)[0])


def best_line(house):
    return " ".join(str(Fraction(one)) for one in least_of(house))


class Model:
    """The oracle's desk: its answer is a list of lines, or the refusal's class and field."""

    def __init__(self, house):
        self.house = house
        self.names = []
        self.lines = {}

    def keeper(self, name):
        return read_keeper(self.lines[name])

    def named(self, word, name):
        if name not in self.names:
            return (NoKeeper, name)
        if word == "keeper":
            return list(self.lines[name])
        if word == "drop":
            self.names.remove(name)
            self.lines.pop(name)
            return ["ok"]
        plan = day_by_rules(self.house, self.keeper(name))
        if word == "day":
            return [f"hour {hour} " + parted(deeds[:5] + deeds[5]) for hour, deeds in enumerate(plan)]
        return [" ".join(str(Fraction(one)) for one in costs_of(self.house, plan))]

    def rule(self, line, name, rule):
        lines = self.lines.get(name, []) + [rule]
        try:
            read_keeper(lines)
        except NoText:
            return (NoLine, line)
        if name not in self.names:
            self.names.append(name)
        self.lines[name] = lines
        return ["ok"]

    def raised(self, line, hour, more):
        hours, store, works = self.house
        if hour >= len(hours) or hours[hour][0] + more > FULL:
            return (NoLine, line)
        sunny = (hours[hour][0] + more,) + hours[hour][1:]
        return [best_line((hours[:hour] + (sunny,) + hours[hour + 1:], store, works))]

    def ranked(self):
        keepers = [self.keeper(name) for name in self.names]
        told = ranks_by_rules(self.house, keepers, least_of(self.house))
        return [f"{self.names[number]} {parted(one + more)}" for number, one, more in told]

    def say(self, line):
        number = "(0|[1-9][0-9]{0,6})"
        if line == "show":
            return text_of(self.house)
        if line == "best":
            return [best_line(self.house)]
        if line == "ranks":
            return self.ranked()
        found = re.fullmatch("(keeper|drop|day|costs) ([a-z]{1,8})", line)
        if found:
            return self.named(*found.groups())
        found = re.fullmatch("rule ([a-z]{1,8}) (.*)", line)
        if found:
            return self.rule(line, *found.groups())
        found = re.fullmatch(f"raised {number} {number}", line)
        if found and int(found.group(2)) <= FULL:
            return self.raised(line, int(found.group(1)), int(found.group(2)))
        return (NoLine, line)


class Desks(unittest.TestCase):
    def refused(self, desk, line, refusal, field):
        """The line is refused so, and the desk answers then as ahead of it."""
        with self.assertRaises(refusal, msg=line) as taken:
            desk.say(line)
        self.assertIs(type(taken.exception), refusal)
        self.assertIsInstance(taken.exception, StoreError)
        told = taken.exception.line if refusal is NoLine else taken.exception.name
        self.assertEqual((told, type(told)), (field, str))

    def no_line(self, desk, line):
        self.refused(desk, line, NoLine, line)

    def no_keeper(self, desk, line, name):
        self.refused(desk, line, NoKeeper, name)

    def answered(self, desk, model, line):
        """The desk answers, or refuses, as the oracle's desk does."""
        asked = model.say(line)
        if type(asked) is tuple:
            self.refused(desk, line, *asked)
            return
        told = desk.say(line)
        self.assertEqual(told, asked, line)
        self.assertEqual(kinds(told), (list, [str] * len(asked)))

    def alike(self, desk, model):
        """All that the desk tells without being changed is as the oracle's desk tells it."""
        lines = [f"{word} {name}" for word in ("keeper", "day", "costs") for name in NAMES]
        for line in ["show", "best", "ranks"] + lines:
            self.answered(desk, model, line)

    def both(self, house, lines=()):
        """A desk and the oracle's desk that were told these lines."""
        desk, model = Desk(text_of(house)), Model(house)
        for line in lines:
            self.answered(desk, model, line)
        return desk, model


class Houses(Desks):
    def test_a_house_s_lines(self):
        for house, text in (LEAST, DAY, BOUNDS):
            self.assertEqual(Desk(text).say("show"), text)
        for house in some_days()[::20]:
            self.alike(*self.both(house))

    def test_lines_that_are_none(self):
        for lines, place in [([], 0), (["x"], 0), (["store 0 0 0 0 1 1 0"], 1), (HOUSE[1:], 0), (HOUSE + [""], 7),
                             (HOUSE + ["hour 1 2 dark"], 7), (HOUSE + [HOUSE[5]], 7),
                             (HOUSE[:2] + ["hour 1 02 dark"], 2)]:
            refused_at(self, Desk, lines, place)

    def test_the_list_that_was_handed_in(self):
        lines = list(HOUSE)
        desk = Desk(lines)
        self.assertEqual(lines, HOUSE)
        lines[0] = "store 0 0 0 0 1 1 0"
        lines.clear()
        self.alike(desk, Model(DAY[0]))


class Keepers(Desks):
    def test_at_first_there_is_none(self):
        desk = Desk(HOUSE)
        self.assertEqual(desk.say("ranks"), [])
        for name in NAMES:
            for word in ("keeper", "drop", "day", "costs"):
                self.no_keeper(desk, f"{word} {name}", name)

    def test_a_rule_makes_a_keeper_or_is_put_at_its_end(self):
        desk = Desk(HOUSE)
        self.assertEqual(desk.say("rule a " + SPARE), ["ok"])
        self.assertEqual(desk.say("keeper a"), [SPARE])
        self.assertEqual(desk.say("rule a " + PLAIN), ["ok"])
        self.assertEqual(desk.say("rule a " + BUY), ["ok"])
        self.assertEqual(desk.say("rule b " + BUY), ["ok"])
        self.assertEqual(desk.say("keeper a"), [SPARE, PLAIN, BUY])
        self.assertEqual(desk.say("keeper b"), [BUY])

    def test_a_rule_that_can_t_stand_makes_no_keeper(self):
        desk = Desk(HOUSE)
        for rule in ["", "x", "when", PLAIN + " ", "when dark" + PLAIN[4:] + " x", "when over 01" + PLAIN[4:]]:
            self.no_line(desk, "rule a " + rule)
            self.no_keeper(desk, "keeper a", "a")
        self.no_line(desk, "rule a")
        self.no_keeper(desk, "drop a", "a")
        self.assertEqual(desk.say("ranks"), [])

    def test_the_twenty_first_rule(self):
        desk, model = self.both(DAY[0], [f"rule a when over {number}" + PLAIN[4:] for number in range(20)])
        self.assertEqual(len(desk.say("keeper a")), 20)
        for rule in (PLAIN, SPARE, "x"):
            self.no_line(desk, "rule a " + rule)
        self.alike(desk, model)
        self.assertEqual(desk.say("rule b " + PLAIN), ["ok"])
        self.assertEqual(desk.say("drop a"), ["ok"])
        self.assertEqual(desk.say("rule a " + PLAIN), ["ok"])
        self.assertEqual(desk.say("keeper a"), [PLAIN])

    def test_drop(self):
        desk = Desk(HOUSE)
        for name in ("a", "aa", "b"):
            desk.say(f"rule {name} {PLAIN}")
        self.assertEqual(desk.say("drop a"), ["ok"])
        for word in ("keeper", "drop", "day", "costs"):
            self.no_keeper(desk, word + " a", "a")
        self.assertEqual([line.split(" ")[0] for line in desk.say("ranks")], ["aa", "b"])
        self.assertEqual(desk.say("keeper aa"), [PLAIN])

    def test_keepers_stand_in_the_order_in_which_they_were_made(self):
        desk = Desk(HOUSE)
        for name in ("m", "z", "a", "c"):
            desk.say(f"rule {name} {PLAIN}")

        def order():
            return [line.split(" ")[0] for line in desk.say("ranks")]

        self.assertEqual(order(), ["m", "z", "a", "c"])
        # A rule more makes no keeper anew, nor does a refusal.
        desk.say("rule m " + PLAIN)
        self.no_line(desk, "rule z x")
        self.assertEqual(order(), ["m", "z", "a", "c"])
        desk.say("drop z")
        desk.say("rule b " + PLAIN)
        desk.say("rule z " + PLAIN)
        self.assertEqual(order(), ["m", "a", "c", "b", "z"])
        desk.say("drop m")
        desk.say("rule m " + PLAIN)
        self.assertEqual(order(), ["a", "c", "b", "z", "m"])

    def test_names_of_all_kinds(self):
        desk, model = self.both(LEAST[0])
        for number, name in enumerate(NAMES):
            self.answered(desk, model, f"rule {name} when over {number}" + PLAIN[4:])
        self.alike(desk, model)
        for name in NAMES[::2]:
            self.answered(desk, model, "drop " + name)
        self.alike(desk, model)

    def test_more_than_twenty_keepers_are_not_refused(self):
        desk, model = self.both(LEAST[0], [f"rule {letter} {PLAIN}" for letter in "qwertyuiopasdfghjklzxcvbnm"])
        self.answered(desk, model, "ranks")
        self.assertEqual(len(desk.say("ranks")), 26)


class Answers(Desks):
    # The sun of hour 1 is left; a unit filled is half a unit in the store.
    TEXT = [
        "store 20 6 6 7 1/2 2/3 4", "hour 0 3 line 30 20 10 5", "hour 12 4 dark", "work wash 8 0 1 5", "work a 1 0 0 1",
    ]

    def test_by_hand(self):
        desk = Desk(self.TEXT)
        desk.say("rule eve " + PLAIN)
        desk.say("rule eve " + BUY)
        desk.say("rule all when till 0 fill line take give works now")
        self.assertEqual(desk.say("day eve"), ["hour 0 3 0 0 6 0 3 1", "hour 1 0 0 3 0 0 5 0"])
        self.assertEqual(desk.say("costs eve"), ["0 0 84"])
        self.assertEqual(desk.say("day all"), ["hour 0 5 0 0 6 0 5 1", "hour 1 0 0 5 0 0 3 0"])
        self.assertEqual(desk.say("costs all"), ["0 0 140"])
        self.assertEqual(desk.say("best"), ["0 0 84"])
        self.assertEqual(desk.say("ranks"), ["eve 0 0 84 0 0 0", "all 0 0 140 0 0 56"])
        self.assertEqual(desk.say("keeper eve"), [PLAIN, BUY])
        self.assertEqual(desk.say("show"), self.TEXT)
        self.assertEqual(desk.say("raised 0 1"), ["0 0 54"])
        self.assertEqual(desk.say("raised 1 1"), ["0 0 82"])

    def test_fractions_and_houses_without_works(self):
        desk = Desk(["store 9 0 9 9 1/3 3/7 1", "hour 2 0 dark", "hour 0 1 dark"])
        desk.say("rule a " + PLAIN)
        self.assertEqual(desk.say("day a"), ["hour 0 0 0 2 0 0", "hour 1 0 0 0 2/3 5/7"])
        self.assertEqual(desk.say("costs a"), ["5/7 0 0"])
        desk.say("rule b when fill none take need works now")
        self.assertEqual(desk.say("ranks"), ["a 5/7 0 0 0 0 0", "b 1 0 0 2/7 0 0"])
        self.assertEqual(desk.say("best"), ["5/7 0 0"])
        self.assertEqual(desk.say("raised 0 5"), ["0 0 0"])
        self.assertEqual(desk.say("raised 0 6"), ["0 0 -1/3"])

    def test_days_of_all_kinds(self):
        source = random.Random(42)
        for house in some_days()[::12] + [some_day(source, 24, 6)]:
            desk, model = self.both(house)
            for name in ("a", "b", "c", "d"):
                for line in keeper_text(some_keeper(source, house, source.randint(1, 5), None)):
                    self.answered(desk, model, f"rule {name} {line}")
            self.alike(desk, model)

    def test_every_plain_keeper(self):
        for number, keeper in enumerate(PLAIN_KEEPERS):
            desk, model = self.both(some_days()[number + 40], ["rule a " + line for line in keeper_text(keeper)])
            for line in ("day a", "costs a", "ranks"):
                self.answered(desk, model, line)

    def test_fractions_of_many_figures(self):
        hours = tuple((7 * number % 11, 3 + number % 5, None) for number in range(24))
        house = (hours, (50, 10, 9, 9, (997, 1000), (991, 997), 3), (("wash", 5, 0, 23, 1),))
        desk, model = self.both(house, ["rule a when sunny fill sun take need works now"])
        for line in ("day a", "costs a", "best", "ranks", "raised 3 1"):
            self.answered(desk, model, line)
        self.assertGreater(max(len(part) for part in desk.say("costs a")[0].split(" ")), 12)


class Raised(Desks):
    def test_each_hour(self):
        desk, model = self.both(DAY[0], ["rule a " + PLAIN])
        for hour in range(6):
            for more in (0, 1, 5, 40, 999980, 999987, 999988, 999989, 999991, 999992, FULL - 1, FULL, FULL + 1):
                self.answered(desk, model, f"raised {hour} {more}")
        self.alike(desk, model)

    def test_the_sun_at_its_bound(self):
        desk = Desk(["store 0 0 0 0 1 1 0", "hour 999990 0 dark", "hour 1000000 3 dark", "hour 0 7 dark"])
        self.assertEqual(desk.say("raised 0 10"), ["7 0 0"])
        self.no_line(desk, "raised 0 11")
        self.assertEqual(desk.say("raised 1 0"), ["7 0 0"])
        self.no_line(desk, "raised 1 1")
        self.assertEqual(desk.say("raised 2 6"), ["1 0 0"])
        self.assertEqual(desk.say("raised 2 1000000"), ["0 0 0"])
        self.no_line(desk, "raised 2 1000001")
        self.no_line(desk, "raised 3 0")

    def test_hours_of_a_long_day(self):
        desk = Desk(["store 0 0 0 0 1 1 0"] + ["hour 0 7 dark"] * 24)
        for hour in (0, 9, 10, 23):
            self.assertEqual(desk.say(f"raised {hour} 4"), ["164 0 0"])
        for hour in ("24", "25", "023", "-1", "1000000", ""):
            self.no_line(desk, f"raised {hour} 4")

    def test_the_house_stays(self):
        desk = Desk(["store 0 0 0 0 1 1 0", "hour 0 7 dark", "hour 0 7 dark"])
        for _ in range(3):
            self.assertEqual(desk.say("raised 0 4"), ["10 0 0"])
            self.assertEqual(desk.say("raised 1 5"), ["9 0 0"])
            self.assertEqual(desk.say("best"), ["14 0 0"])
            self.assertEqual(desk.say("show")[1:], ["hour 0 7 dark", "hour 0 7 dark"])


class Refusals(Desks):
    def test_lines_that_are_none(self):
        made = [f"rule {name} {rule}" for name, rule in [("a", PLAIN), ("b", SPARE), ("all", BUY)]]
        for lines in ([], made):
            desk, model = self.both(DAY[0], lines)
            for line in NEVER:
                self.no_line(desk, line)
            self.alike(desk, model)

    def test_behind_each_refusal_the_desk_answers_as_ahead_of_it(self):
        desk, model = self.both(LEAST[0], ["rule a " + PLAIN, "rule b " + SPARE])
        for line in NEVER[::3] + ["drop c", "keeper c", "day c", "costs c"]:
            with self.assertRaises(StoreError):
                desk.say(line)
            for asked in ("show", "keeper a", "keeper b", "ranks"):
                self.answered(desk, model, asked)
        self.alike(desk, model)

    def test_no_line_goes_ahead_of_no_keeper(self):
        desk = Desk(HOUSE)
        for line in ["keeper a ", "keeper a b", "day  a", "costs a 1", "drop Abc", "drop a a", "day abcdefghi", "Day a",
                     "keeper 1", "rule a x", "costs a" + " a" * 400]:
            self.no_line(desk, line)
        for line in ["keeper a", "day a", "costs a", "drop a"]:
            self.no_keeper(desk, line, "a")

    def test_one_sign_put_in_left_out_or_changed(self):
        house = (((3, 4, None), (2, 0, None)), (5, 1, 2, 2, (1, 2), (1, 2), 1), ())
        for line in ["show", "best", "ranks", "keeper ab", "drop ab", "day ab", "costs ab", "raised 1 20",
                     "rule ab when over 1 fill sun take need works wait"]:
            for place in range(len(line) + 1):
                for changed in [line[:place] + line[place + 1:]] + [
                    line[:place] + sign + line[after:] for sign in " aAz09-/+.,_~" for after in (place, place + 1)
                ]:
                    desk, model = self.both(house, ["rule ab " + PLAIN])
                    self.answered(desk, model, changed)
                    for asked in ("show", "keeper ab", "keeper b", "ranks"):
                        self.answered(desk, model, asked)


def some_line(source, house):
    """A line that a desk may be told; of few names, so that they often have a keeper."""
    name = source.choice(["a", "b", "ab", "rule", "zzzzzzzz"])
    word = source.choice(["rule", "rule", "rule", "rule", "keeper", "day", "costs", "drop", "ranks", "best", "show",
                          "raised", "never"])
    if word == "rule":
        return f"rule {name} " + keeper_text(some_keeper(source, house, 1, None))[0]
    if word == "raised":
        return f"raised {source.randrange(len(house[0]) + 1)} {source.choice([0, 1, 7, FULL])}"
    if word == "never":
        return source.choice(NEVER)
    return f"{word} {name}" if word in ("keeper", "day", "costs", "drop") else word


class Orders(Desks):
    def test_many_orders(self):
        source = random.Random(43)
        for house in some_days()[::15]:
            desk, model = self.both(house)
            for _ in range(60):
                self.answered(desk, model, some_line(source, house))
            self.alike(desk, model)

    def test_two_desks_side_by_side(self):
        source = random.Random(44)
        for _ in range(4):
            houses = [some_day(source, 3, 1), some_day(source, 2, 2)]
            desks = [self.both(house) for house in houses] + [self.both(houses[0])]
            for _ in range(80):
                desk, model = source.choice(desks)
                self.answered(desk, model, some_line(source, model.house))
            for desk, model in desks:
                self.alike(desk, model)

    def test_lists_that_were_told(self):
        desk, model = self.both(DAY[0], ["rule a " + PLAIN, "rule b " + SPARE, "rule a " + BUY])
        lines = ["show", "best", "ranks", "keeper a", "day a", "costs b", "raised 1 3"]
        told = [desk.say(line) for line in lines]
        kept = copy.deepcopy(told)
        self.alike(desk, model)
        desk.say("rule a " + SPARE)
        desk.say("drop b")
        self.assertEqual(told, kept)
        desk, model = self.both(DAY[0], ["rule a " + PLAIN, "rule b " + SPARE, "rule a " + BUY])
        for line in lines:
            answer = desk.say(line)
            answer[0] = "changed"
            answer.append("more")
        desk.say("rule c " + PLAIN).clear()
        desk.say("drop c").append("more")
        self.alike(desk, model)


if __name__ == "__main__":
    unittest.main()
