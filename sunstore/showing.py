"""Shows a house as the lines of its text."""

from sunstore.fractions import written


def whole(number):
    """The text of a whole number."""
    return written((number, 1))


def store_line(store):
    """The line of a store."""
    amounts = [whole(number) for number in store[:4]]
    shares = [written(share) for share in store[4:6]]
    return " ".join(["store"] + amounts + shares + [whole(store[6])])


def hour_line(hour):
    """The line of an hour."""
    words = ["hour", whole(hour[0]), whole(hour[1])]
    if hour[2] is None:
        return " ".join(words + ["dark"])
    return " ".join(words + ["line"] + [whole(number) for number in hour[2]])


def work_line(work):
    """The line of a work."""
    return " ".join(["work", work[0]] + [whole(number) for number in work[1:]])


def shown(house):
    """The lines of a house's text."""
    hours = [hour_line(hour) for hour in house[0]]
    works = [work_line(work) for work in house[2]]
    return [store_line(house[1])] + hours + works
