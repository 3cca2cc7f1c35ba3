"""The refusals: all stand straight under StoreError, none under another one."""


class StoreError(ValueError):
    """Any refusal."""


class NoFraction(StoreError):
    """A number, or a fraction, was to be divided by nought; top is what was to be divided."""

    def __init__(self, top):
        # The words leave out top: Python refuses to write out numbers of some thousand figures.
        StoreError.__init__(self, "nothing can be divided by nought")
        self.top = top


class NoText(StoreError):
    """Lines are no text of what was to be read; place is the number of the first line that can't stand."""

    def __init__(self, place):
        StoreError.__init__(self, f"line {place} can't stand there")
        self.place = place


class NoPrices(StoreError):
    """Prices bear out no floor; hour is the first hour in which spilling has a rest ahead of nought."""

    def __init__(self, hour):
        StoreError.__init__(self, f"spilling has a rest ahead of nought in hour {hour}")
        self.hour = hour


class NoKeeper(StoreError):
    """No keeper has this name."""

    def __init__(self, name):
        StoreError.__init__(self, f"no keeper has the name {name}")
        self.name = name


class NoLine(StoreError):
    """A desk can't answer this line."""

    def __init__(self, line):
        StoreError.__init__(self, f"the desk has no answer to: {line}")
        self.line = line
