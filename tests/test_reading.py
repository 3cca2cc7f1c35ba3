"""Points 8, 9 and 10: lines read to the house of which they are the text, or refused by their place."""

import unittest

from samples import BOUNDS, DAY, LEAST, kinds, refused_at, some_houses, text_of
from sunstore.reading import read
from sunstore.showing import shown

STORE = "store 20 5 6 7 9/10 19/20 4"
DARK = "hour 12 4 dark"
LINE = "hour 0 3 line 30 20 10 5"
WORK = "work wash 8 0 0 5"

# For each form a line that stands, and the kinds of its words; a word without a kind stands for itself.
FORMS = [
    (STORE, ["", "amount", "amount", "amount", "amount", "share", "share", "amount"]),
    (DARK, ["", "amount", "amount", ""]),
    (LINE, ["", "amount", "amount", "", "price", "amount", "price", "amount"]),
    (WORK, ["", "name", "amount", "amount", "amount", "amount"]),
]
MISWRITTEN = [
    "", "01", "00", "+1", "-0", "-01", "2/4", "1/1", "0/1", "3/1", "1/0", "-", "/", "1/", "/2", "1.0", "1e3", "1_0",
    "0x1", "--1", "1-", "1/-2", "x", "None", "True", "1,0", "9" * 61, "1" * 150,
]
NO_WHOLE = ["1/2", "-1/2", "7/3"]
WRONG = {
    "amount": MISWRITTEN + NO_WHOLE + ["-1", "-1000000", "1000001", "9" * 60],
    "price": MISWRITTEN + NO_WHOLE + ["-1000001", "1000001", "-" + "9" * 60, "9" * 60],
    "share": MISWRITTEN + ["0", "-1", "-1/2", "2", "3/2", "1001/1000", "1/1001", "1000/1001", "1/" + "9" * 60],
    "name": ["", "A", "Wash", "wasH", "ninetters", "abcdefghi", "a1", "7", "a-b", "a_b", "a.b", "wash,", "{", "`", "@"],
    "": ["", "Hour", "STORE", "hours", "stor", "dar", "Dark", "lines", "0", "x", "house", "-"],
}
OTHERS = [
    "", " ", "   ", "store", "hour", "work", "dark", "line", "show", "x", "store 1", "hour 1", "hour dark", "hour 1 2",
    "hour 1 2 line", "hour 1 2 dark dark", "hour 1 2 dark 1 2 3 4", "hour 1 2 line dark", "work wash", "# remark",
    "hour 1 2 3 4 5 6", "work 1 2 3 4 5", "store a b c d e f g", "hour,1,2,dark", "when fill sun take need works wait",
    "store 20 21 6 7 9/10 19/20 4", "store 0 1 0 0 1 1 0", "store 999999 1000000 0 0 1 1 0", "work wash 8 2 1 5",
    "work wash 8 24 24 5", "work wash 8 0 24 5", "work wash 8 1000000 1000000 5",
]


def word_by_word(line, words_kinds):
    """Lines that never stand, each by one word wrong, more or fewer."""
    words = line.split(" ")
    for place, kind in enumerate(words_kinds):
        for wrong in WRONG[kind]:
            yield " ".join(words[:place] + [wrong] + words[place + 1:])
        yield " ".join(words[:place] + words[place + 1:])
        yield " ".join(words[:place + 1] + words[place:])
        yield " ".join(words[:place] + ["x"] + words[place:])


def blank_by_blank(line):
    """Lines that never stand, each by blanks elsewhere than one between words."""
    yield " " + line
    yield line + " "
    yield "  " + line + "  "
    for place, sign in enumerate(line):
        if sign == " ":
            yield line[:place] + " " + line[place:]
            yield line[:place] + "   " + line[place + 1:]
            yield line[:place] + line[place + 1:]
            yield line[:place] + "," + line[place + 1:]


def never_standing():
    """Lines that stand nowhere in any text, each once."""
    lines = list(OTHERS)
    for line, words_kinds in FORMS:
        lines.extend(word_by_word(line, words_kinds))
        lines.extend(blank_by_blank(line))
        lines.extend([line.upper(), line.capitalize(), line + ".", line + " x", "x " + line])
    return list(dict.fromkeys(lines))


NEVER = never_standing()


class Reading(unittest.TestCase):
    def refused(self, lines, place):
        refused_at(self, read, lines, place)


class Houses(Reading):
    def test_by_hand(self):
        for house, lines in (LEAST, DAY, BOUNDS):
            self.assertEqual(read(lines), house)

    def test_houses_of_all_kinds(self):
        for house in some_houses():
            lines = text_of(house)
            told = read(lines)
            self.assertEqual(told, house)
            self.assertEqual(kinds(told), kinds(house))
            self.assertEqual(lines, text_of(house))

    def test_a_house_shown_is_read_again(self):
        for house in some_houses():
            self.assertEqual(read(shown(house)), house)

    def test_kinds(self):
        whole = (tuple, [int, int])
        line = (tuple, [int, int, int, int])
        self.assertEqual(kinds(read([STORE, LINE, DARK, WORK])), (tuple, [
            (tuple, [(tuple, [int, int, line]), (tuple, [int, int, type(None)])]),
            (tuple, [int, int, int, int, whole, whole, int]),
            (tuple, [(tuple, [str, int, int, int, int])]),
        ]))

    def test_lists_that_are_changed_afterwards(self):
        house, text = DAY
        lines = list(text)
        told = read(lines)
        lines[0] = "store 0 0 0 0 1 1 0"
        lines.pop()
        self.assertEqual(told, house)
        self.assertEqual(read(text), house)
        lines = shown(house)
        lines.append("work b 1 0 0 1")
        self.assertEqual(read(lines)[2], house[2] + (("b", 1, 0, 0, 1),))
        self.assertEqual(read(shown(house)), house)

    def test_edges_that_stand(self):
        for size, start in ((0, 0), (1, 1), (1000000, 1000000), (1000000, 999999)):
            self.assertEqual(read([f"store {size} {start} 0 0 1 1 0", DARK])[1][:2], (size, start))
        for text, one in (("1", (1, 1)), ("1/1000", (1, 1000)), ("999/1000", (999, 1000)), ("998/999", (998, 999))):
            self.assertEqual(read([f"store 0 0 0 0 {text} 1 0", DARK])[1][4:6], (one, (1, 1)))
            self.assertEqual(read([f"store 0 0 0 0 1 {text} 0", DARK])[1][4:6], ((1, 1), one))
        for name in ("a", "z", "abcdefgh", "store", "hour", "work", "dark", "line"):
            self.assertEqual(read([STORE, DARK, f"work {name} 0 0 0 0"])[2], ((name, 0, 0, 0, 0),))
        for first, last in ((0, 0), (0, 2), (2, 2), (1, 2)):
            told = read([STORE, DARK, DARK, DARK, f"work a 0 {first} {last} 0"])
            self.assertEqual(told[2], (("a", 0, first, last, 0),))

    def test_as_many_as_can_stand(self):
        works = [f"work {name} 1 0 23 1" for name in "abcdef"]
        told = read([STORE] + [DARK] * 24 + works)
        self.assertEqual((len(told[0]), len(told[2])), (24, 6))
        self.assertEqual([work[0] for work in told[2]], list("abcdef"))


class LinesThatNeverStand(Reading):
    def test_put_in_anywhere(self):
        for line in NEVER:
            for text in (LEAST[1], DAY[1]):
                for place in range(len(text) + 1):
                    self.refused(text[:place] + [line] + text[place:], place)

    def test_in_the_place_of_another(self):
        for line in NEVER:
            text = [STORE, LINE, DARK, WORK]
            for place in range(len(text)):
                self.refused(text[:place] + [line] + text[place + 1:], place)

    def test_in_the_place_of_the_line_they_are_made_of(self):
        text = [STORE, LINE, DARK, WORK]
        for line, words_kinds in FORMS:
            place = text.index(line)
            for wrong in list(word_by_word(line, words_kinds)) + list(blank_by_blank(line)):
                self.refused(text[:place] + [wrong] + text[place + 1:], place)

    def test_alone(self):
        for line in NEVER:
            self.refused([line], 0)

    def test_in_texts_of_all_sizes(self):
        for house in some_houses()[::9]:
            text = text_of(house)
            for place in range(len(text) + 1):
                for line in NEVER[place::97]:
                    self.refused(text[:place] + [line] + text[place:], place)

    def test_the_first_of_several_is_told(self):
        text = DAY[1]
        for first in range(len(text)):
            for second in range(first, len(text)):
                lines = text[:first] + ["x"] + text[first:second] + ["hour 01 2 dark"] + text[second:]
                self.refused(lines, first)

    def test_work_names_at_their_edges(self):
        for name in ("abcdefghi", "", "A", "a1", "a b"):
            self.refused([STORE, DARK, f"work {name} 0 0 0 0"], 2)


class LinesThatCannotStandThere(Reading):
    def test_where_the_text_would_have_to_go_on(self):
        self.refused([], 0)
        self.refused([STORE], 1)

    def test_no_store_first(self):
        for line in (DARK, LINE, WORK):
            self.refused([line], 0)
            self.refused([line, STORE, DARK], 0)
        self.refused([DARK, DARK, WORK], 0)

    def test_a_second_store(self):
        self.refused([STORE, STORE], 1)
        self.refused([STORE, STORE, DARK], 1)
        self.refused([STORE, DARK, STORE], 2)
        self.refused([STORE, DARK, WORK, STORE], 3)
        text = DAY[1]
        for place in range(1, len(text) + 1):
            self.refused(text[:place] + [text[0]] + text[place:], place)

    def test_a_work_ahead_of_all_hours(self):
        self.refused([STORE, WORK], 1)
        self.refused([STORE, WORK, DARK], 1)

    def test_an_hour_behind_a_work(self):
        self.refused([STORE, DARK, WORK, DARK], 3)
        self.refused([STORE, DARK, WORK, LINE], 3)
        self.refused([STORE, DARK, WORK, "work a 0 0 0 0", LINE], 4)

    def test_a_twenty_fifth_hour(self):
        for hour in (DARK, LINE):
            self.refused([STORE] + [hour] * 25, 25)
            self.refused([STORE] + [hour] * 25 + [WORK], 25)
            self.refused([STORE] + [hour] * 60, 25)
            self.assertEqual(len(read([STORE] + [hour] * 24)[0]), 24)

    def test_a_seventh_work(self):
        works = [f"work {name} 0 0 0 0" for name in "abcdefgh"]
        for hours in (1, 2, 24):
            above = [STORE] + [DARK] * hours
            self.refused(above + works[:7], hours + 7)
            self.refused(above + works, hours + 7)
            self.refused(above + works[:6] + [DARK], hours + 7)
            self.assertEqual(len(read(above + works[:6])[2]), 6)

    def test_a_name_twice(self):
        self.refused([STORE, DARK, WORK, WORK], 3)
        self.refused([STORE, DARK, WORK, "work wash 1 0 0 1"], 3)
        self.refused([STORE, DARK, WORK, "work a 1 0 0 1", "work b 1 0 0 1", WORK, "work c 1 0 0 1"], 5)
        self.assertEqual(len(read([STORE, DARK, WORK, "work was 1 0 0 1", "work washs 1 0 0 1"])[2]), 3)

    def test_a_work_s_hours(self):
        for hours in (1, 2, 5, 24):
            above = [STORE] + [DARK] * hours
            for first in range(hours + 2):
                for last in range(hours + 2):
                    lines = above + [f"work a 1 {first} {last} 1"]
                    if first <= last < hours:
                        self.assertEqual(read(lines)[2], (("a", 1, first, last, 1),))
                    else:
                        self.refused(lines, hours + 1)

    def test_a_work_s_hours_are_looked_at_when_its_line_is_read(self):
        self.refused([STORE, DARK, "work a 1 0 1 1", DARK], 2)
        self.refused([STORE, DARK, "work a 1 0 1 1", "x"], 2)

    def test_reading_goes_on_behind_a_refusal(self):
        house, text = DAY
        for place in range(len(text)):
            self.refused(text[:place] + ["x"] + text[place:], place)
            self.assertEqual(read(text), house)
        self.refused([], 0)
        self.assertEqual(read(text), house)


if __name__ == "__main__":
    unittest.main()
