"""The refusals, each with its fields, all under one base [3]."""


class PassError(ValueError):
    """Any refusal."""


class NoText(PassError):
    """A text or rows that write nothing: the first row, and in it the first word, that can not stand there."""

    def __init__(self, row, word):
        self.row = row
        self.word = word


class NoMeeting(PassError):
    """A meeting that can't be: its place in what was told."""

    def __init__(self, place):
        self.place = place


class NoPaper(PassError):
    """A thing that is no paper: what is amiss, and where."""

    def __init__(self, word, number):
        self.word = word
        self.number = number


class TooMany(PassError):
    """More rooms or crowds than are let."""

    def __init__(self):
        pass


class NoLine(PassError):
    """A line that a desk does not know."""

    def __init__(self, line):
        self.line = line


class NoRule(PassError):
    """A desk without a rule."""

    def __init__(self):
        pass


class NoCrowd(PassError):
    """A desk without a crowd."""

    def __init__(self):
        pass
