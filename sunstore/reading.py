"""Reads the lines of a house's text."""

from sunstore.errors import NoText
from sunstore.fractions import read_fraction

MOST_HOURS = 24
MOST_WORKS = 6
MOST_NUMBER = 1000000
MOST_BOTTOM = 1000
MOST_LETTERS = 8
LETTERS = "abcdefghijklmnopqrstuvwxyz"


def read_whole(word, least):
    """The whole number from least to MOST_NUMBER that the word writes, or None."""
    one = read_fraction(word)
    if one is None or one[1] != 1 or one[0] < least or one[0] > MOST_NUMBER:
        return None
    return one[0]


def read_amount(word):
    """The number from 0 on that the word writes, or None."""
    return read_whole(word, 0)


def read_price(word):
    """The price, of either sign, that the word writes, or None."""
    return read_whole(word, -MOST_NUMBER)


def read_share(word):
    """The share, above 0 and not above 1, that the word writes, or None."""
    one = read_fraction(word)
    if one is None or one[0] <= 0 or one[0] > one[1] or one[1] > MOST_BOTTOM:
        return None
    return one


def read_name(word):
    """The word itself where it is a name, or None."""
    if word == "" or len(word) > MOST_LETTERS:
        return None
    for sign in word:
        if sign not in LETTERS:
            return None
    return word


STORE_PARTS = (read_amount, read_amount, read_amount, read_amount, read_share, read_share, read_amount)
HOUR_PARTS = (read_amount, read_amount)
LINE_PARTS = (read_price, read_amount, read_price, read_amount)
WORK_PARTS = (read_name, read_amount, read_amount, read_amount, read_amount)


def read_parts(words, readers):
    """A tuple of what each word tells its reader; None where one tells nothing, or words are too many or too few."""
    if len(words) != len(readers):
        return None
    parts = [reader(word) for reader, word in zip(readers, words)]
    if None in parts:
        return None
    return tuple(parts)


def read_store(words):
    """The store that a line's words tell, or None."""
    store = read_parts(words[1:], STORE_PARTS)
    if words[0] != "store" or store is None or store[1] > store[0]:
        return None
    return store


def read_hour(words):
    """The hour that a line's words tell, or None."""
    amounts = read_parts(words[1:3], HOUR_PARTS)
    if words[0] != "hour" or amounts is None:
        return None
    if words[3:] == ["dark"]:
        return amounts + (None,)
    line = read_parts(words[4:], LINE_PARTS)
    if words[3:4] != ["line"] or line is None:
        return None
    return amounts + (line,)


def read_work(words, hours):
    """The work that a line's words tell, in a house of so many hours, or None."""
    work = read_parts(words[1:], WORK_PARTS)
    if words[0] != "work" or work is None:
        return None
    if work[2] > work[3] or work[3] >= hours:
        return None
    return work


def read_hours(rows):
    """The hours that the rows of words begin with, as many as can stand."""
    hours = []
    for words in rows[:MOST_HOURS]:
        hour = read_hour(words)
        if hour is None:
            return hours
        hours.append(hour)
    return hours


def read_works(rows, hours):
    """The works that the rows of words begin with, as many as can stand in a house of so many hours."""
    works = []
    names = []
    for words in rows[:MOST_WORKS]:
        work = read_work(words, hours)
        if work is None or work[0] in names:
            return works
        works.append(work)
        names.append(work[0])
    return works


def read(lines):
    """The house of which the lines are the text; NoText with the place of the first line that can't stand."""
    # A split at each single blank leaves an empty word beside every blank too many, which no reader takes.
    rows = [line.split(" ") for line in lines]
    store = None if rows == [] else read_store(rows[0])
    if store is None:
        raise NoText(0)
    hours = read_hours(rows[1:])
    # The text goes on at least to an hour, so place 1 is refused whether its line is wrong or isn't there.
    if hours == []:
        raise NoText(1)
    works = read_works(rows[1 + len(hours):], len(hours))
    place = 1 + len(hours) + len(works)
    if place < len(rows):
        raise NoText(place)
    return (tuple(hours), store, tuple(works))
