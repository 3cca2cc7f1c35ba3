"""Points 28 and 31: a keeper's text, shown, and read to the keeper of which it is the text, or refused by its place."""

import copy
import random
import re
import unittest

from samples import FILLS, FULL, PLAIN_KEEPERS, TAKES, WORKS, keeper_text, kinds, refused_at, some_days, some_keeper
from sunstore.rules import read_keeper, shown_keeper

PLAIN = "when fill sun take need works wait"
# A keeper by hand with each of its words, and with numbers at their ends.
KEEPER = (
    ((("from", 0), ("till", 23), ("over", 7), ("under", 1000000), ("dark",), ("sunny",)), "none", "give", "now"),
    ((("dear", -1000000), ("cheap", 1000000), ("dear", 0), ("cheap", -1)), "line", "none", "wait"),
    ((("from", 1000000),), "sun", "need", "now"),
    ((), "sun", "need", "wait"),
)
TEXT = [
    "when from 0 till 23 over 7 under 1000000 dark sunny fill none take give works now",
    "when dear -1000000 cheap 1000000 dear 0 cheap -1 fill line take none works wait",
    "when from 1000000 fill sun take need works now",
    "when fill sun take need works wait",
]
FULL_LINE = "when from 1 dark dear -7 sunny under 30 cheap 8 fill line take give works now"
FORM = re.compile(
    r"when(?: (?:(?:from|till|over|under) (?:0|[1-9][0-9]*)|(?:dear|cheap) (?:0|-?[1-9][0-9]*)|dark|sunny)){0,6}"
    r" fill (?:none|sun|line) take (?:none|need|give) works (?:now|wait)")
SIGNS = [chr(number) for number in range(32, 127) if chr(number) != "%"]
WORDS = """
    when from till over under dear cheap dark sunny fill none sun line take need give works now wait 0 1 -1 1000000
""".split() + [""]
WRONG_NUMBERS = [
    "", "01", "00", "+1", "-0", "-01", "2/4", "1/1", "0/1", "3/1", "1/0", "1/2", "-1/2", "-", "/", "1/", "/2", "1.0",
    "1e3", "1_0", "0x1", "--1", "1-", "x", "None", "1000001", "-1000001", "9" * 60, "9" * 61, "-" + "9" * 60, "dark",
    "fill",
]


def stands(line):
    """The oracle's answer if a line is one of a keeper's text."""
    return FORM.fullmatch(line) is not None and all(abs(int(one)) <= FULL for one in re.findall("[0-9]+", line))


def first_wrong(lines):
    """The oracle's number of the first line that can't stand, or None."""
    for place, line in enumerate(lines):
        if place == 20 or not stands(line):
            return place
    return None


def some_texts():
    """(keeper, text) of each count of rules and of tests, by a fixed seed."""
    source = random.Random(36)
    houses = some_days()
    keepers = [some_keeper(source, source.choice(houses), rules, tests)
               for rules in range(21) for tests in (0, 1, 2, 3, 4, 5, 6, None)]
    return [(keeper, keeper_text(keeper)) for keeper in keepers]


class Texts(unittest.TestCase):
    def refused(self, lines, place):
        refused_at(self, read_keeper, lines, place)

    def answered(self, lines):
        """The lines are read or refused as the oracle says."""
        place = first_wrong(lines)
        if place is None:
            self.assertEqual(shown_keeper(read_keeper(lines)), lines)
        else:
            self.refused(lines, place)


class Shown(Texts):
    def test_by_hand(self):
        self.assertEqual(shown_keeper(KEEPER), TEXT)
        self.assertEqual(shown_keeper(()), [])

    def test_keepers_of_all_kinds(self):
        for keeper, text in some_texts():
            told = shown_keeper(keeper)
            self.assertEqual(told, text)
            self.assertEqual(kinds(told), (list, [str] * len(keeper)))
            self.assertIsNone(first_wrong(told))

    def test_each_keeper_has_a_text_of_its_own(self):
        keepers = {keeper for keeper, _ in some_texts()}
        self.assertEqual(len({tuple(shown_keeper(keeper)) for keeper in keepers}), len(keepers))
        rules = [(("over", 1), ("over", 2)), (("over", 2), ("over", 1)), (("over", 12),), (("over", 1),)]
        near = [((tests, "none", "none", "now"),) * count for tests in rules for count in (1, 2)]
        self.assertEqual(len({tuple(shown_keeper(keeper)) for keeper in near}), len(near))

    def test_what_is_told_is_the_asker_s_own(self):
        before = copy.deepcopy(KEEPER)
        told = shown_keeper(KEEPER)
        again = shown_keeper(KEEPER)
        told[0] = "changed"
        told.append("more")
        self.assertEqual(again, TEXT)
        self.assertEqual(shown_keeper(KEEPER), TEXT)
        told = shown_keeper(())
        told.append("more")
        self.assertEqual(shown_keeper(()), [])
        self.assertEqual(KEEPER, before)

    def test_somewhat_beyond_the_bounds_nothing_is_refused(self):
        keeper = (((("over", 1000001), ("dear", -2000000)) + (("dark",),) * 6, "none", "none", "now"),) * 23
        self.assertEqual(shown_keeper(keeper), keeper_text(keeper))


class Read(Texts):
    def test_by_hand(self):
        self.assertEqual(read_keeper(TEXT), KEEPER)
        self.assertEqual(kinds(read_keeper(TEXT)), kinds(KEEPER))

    def test_no_lines(self):
        self.assertEqual(read_keeper([]), ())
        self.assertIs(type(read_keeper([])), tuple)

    def test_keepers_of_all_kinds(self):
        for keeper, text in some_texts():
            before = list(text)
            told = read_keeper(text)
            self.assertEqual(told, keeper)
            self.assertEqual(kinds(told), kinds(keeper))
            self.assertEqual(text, before)
            self.assertEqual(read_keeper(shown_keeper(keeper)), keeper)

    def test_each_word(self):
        for keeper in PLAIN_KEEPERS:
            self.assertEqual(read_keeper(keeper_text(keeper)), keeper)

    def test_numbers_at_their_ends(self):
        for word in ("from", "till", "over", "under"):
            for number in (0, 1, 999999, 1000000):
                self.assertEqual(read_keeper([f"when {word} {number} fill sun take need works wait"]),
                                 ((((word, number),), "sun", "need", "wait"),))
            for number in (-1, 1000001, -1000000):
                self.refused([f"when {word} {number} fill sun take need works wait"], 0)
        for word in ("dear", "cheap"):
            for number in (-1000000, -999999, -1, 0, 1, 999999, 1000000):
                self.assertEqual(read_keeper([f"when {word} {number} fill sun take need works wait"]),
                                 ((((word, number),), "sun", "need", "wait"),))
            for number in (-1000001, 1000001):
                self.refused([f"when {word} {number} fill sun take need works wait"], 0)

    def test_lists_that_are_changed_afterwards(self):
        lines = list(TEXT)
        told = read_keeper(lines)
        lines[0] = PLAIN
        lines.pop()
        self.assertEqual(told, KEEPER)
        self.assertEqual(read_keeper(TEXT), KEEPER)


class LinesThatCannotStand(Texts):
    def test_one_sign_put_in_left_out_or_changed(self):
        for line in (PLAIN, FULL_LINE, TEXT[1]):
            for place in range(len(line) + 1):
                self.answered([line[:place] + line[place + 1:]])
                for sign in SIGNS:
                    self.answered([line[:place] + sign + line[place:]])
                    self.answered([line[:place] + sign + line[place + 1:]])

    def test_one_word_put_in_left_out_or_changed(self):
        for line in (PLAIN, FULL_LINE, TEXT[0], TEXT[1]):
            words = line.split(" ")
            for place in range(len(words) + 1):
                self.answered([" ".join(words[:place] + words[place + 1:])])
                for word in WORDS:
                    self.answered([" ".join(words[:place] + [word] + words[place:])])
                    self.answered([" ".join(words[:place] + [word] + words[place + 1:])])

    def test_two_words_in_another_order(self):
        for line in (PLAIN, FULL_LINE, TEXT[0], TEXT[1]):
            words = line.split(" ")
            for one in range(len(words)):
                for other in range(one):
                    changed = list(words)
                    changed[one], changed[other] = words[other], words[one]
                    self.answered([" ".join(changed)])

    def test_words_of_any_kind(self):
        source = random.Random(37)
        for _ in range(4000):
            self.answered([" ".join(source.choices(WORDS, k=source.randint(0, 9)))])
            tests = source.choices(WORDS[1:9], k=source.randint(0, 3))
            self.answered([" ".join(["when"] + tests + PLAIN.split(" ")[1:])])

    def test_numbers_that_are_written_otherwise(self):
        for word in ("from", "till", "over", "under", "dear", "cheap"):
            for number in WRONG_NUMBERS:
                line = f"when {word} {number} fill sun take need works wait"
                self.refused([line], 0)
                self.refused([PLAIN, line, "x"], 1)

    def test_words_of_one_place_in_another(self):
        for fill in FILLS + TAKES + WORKS + ("Sun", "", "all", "dark"):
            for take in FILLS + TAKES + WORKS + ("Need", ""):
                for works in FILLS + TAKES + WORKS + ("later", ""):
                    line = f"when fill {fill} take {take} works {works}"
                    self.assertEqual(stands(line), fill in FILLS and take in TAKES and works in WORKS)
                    self.answered([line])

    def test_by_hand(self):
        for line in [
            "", " ", "when", "when ", " when", "fill sun take need works wait", "When fill sun take need works wait",
            "when fill sun take need", "when fill sun take need works", "when take need fill sun works wait",
            "when fill sun take need works wait now", "when dark 1 fill sun take need works wait",
            "when from fill sun take need works wait", "when fill sun take need works wait dark",
            "when when fill sun take need works wait", "when fill sun fill sun take need works wait",
            "when from 1 2 fill sun take need works wait", "when 1 fill sun take need works wait",
            "when from 1, till 2 fill sun take need works wait", "rule a when fill sun take need works wait",
            "when  fill sun take need works wait", "when fill sun take need works  wait", PLAIN + " ", " " + PLAIN,
            "when sunny 0 fill sun take need works wait", "when cheap fill sun take need works wait",
            "hour 1 2 dark", "# remark", "when fill sun sun take need works wait",
        ]:
            self.assertFalse(stands(line))
            for text in ([], [PLAIN], TEXT):
                for place in range(len(text) + 1):
                    self.refused(text[:place] + [line] + text[place:], place)

    def test_seven_tests(self):
        for test in ("dark", "sunny", "from 1", "cheap -3"):
            for count in range(10):
                line = "when" + (" " + test) * count + " fill sun take need works wait"
                if count <= 6:
                    self.assertEqual(len(read_keeper([line])[0][0]), count)
                else:
                    self.refused([line], 0)
                    self.refused([PLAIN, PLAIN, line, PLAIN], 2)

    def test_a_twenty_first_line(self):
        for line in (PLAIN, FULL_LINE):
            for count in (19, 20):
                self.assertEqual(len(read_keeper([line] * count)), count)
            for count in (21, 22, 60):
                self.refused([line] * count, 20)
        self.refused([PLAIN] * 20 + ["x"], 20)
        self.refused([PLAIN] * 21 + ["x"], 20)
        self.refused([PLAIN] * 19 + ["x"] + [PLAIN] * 9, 19)

    def test_the_first_of_several_is_told(self):
        for first in range(20):
            for second in range(first + 1, 23, 3):
                lines = [PLAIN] * 24
                lines[first], lines[second] = "when", "x"
                self.refused(lines, first)

    def test_reading_goes_on_behind_a_refusal(self):
        for place in range(len(TEXT)):
            self.refused(TEXT[:place] + ["x"] + TEXT[place:], place)
            self.assertEqual(read_keeper(TEXT), KEEPER)


if __name__ == "__main__":
    unittest.main()
