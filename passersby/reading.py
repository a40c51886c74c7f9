"""Texts and rows read as what they write, or refused by the first word that can not stand there [10, 11]."""

from passersby.errors import NoText
from passersby.kinds import are_sorts
from passersby.questions import MOST_LEAST
from passersby.questions import MOST_QUESTIONS
from passersby.questions import MOST_REST
from passersby.questions import MOST_WITHIN
from passersby.questions import parts_of
from passersby.rules import MOST_ROOMS
from passersby.rules import MOST_SORTS

FIGURES = "0123456789"
MOST_FIGURES = 9
QUESTION_WORDS = ("least", "more", "rest", "both", "either", "not")


def number_of(word):
    """The number that a word writes, or None."""
    if not 1 <= len(word) <= MOST_FIGURES:
        return None
    if not all([sign in FIGURES for sign in word]):
        return None
    if word[0] == "0" and len(word) > 1:
        return None
    return int(word)


def numbers_of(word):
    """The numbers that a word writes with a , between, as a tuple, or None."""
    numbers = [number_of(part) for part in word.split(",")]
    return None if None in numbers else tuple(numbers)


class Row:
    """The words of one row, read one behind the other."""

    def __init__(self, number, text):
        self.number = number
        self.words = text.split(" ")
        self.place = 0
        self.asked = 0

    def refuse(self):
        """Refuse the word that is to be read next, or the lack of it."""
        raise NoText(self.number, self.place)

    def has_more(self):
        """Whether a word is left."""
        return self.place < len(self.words)

    def upcoming(self):
        """The word that is to be read next; it is passed only when it is known to stand there rightly."""
        if not self.has_more():
            self.refuse()
        return self.words[self.place]

    def take_word(self, choices):
        """Read one of these words."""
        word = self.upcoming()
        if word not in choices:
            self.refuse()
        self.place += 1
        return word

    def take_number(self, least, most, barred):
        """Read a number from least to most that is none of the barred ones."""
        number = number_of(self.upcoming())
        if number is None or not least <= number <= most or number in barred:
            self.refuse()
        self.place += 1
        return number

    def take_sorts(self, sorts, fewest, barred):
        """Read sorts, at least so many, none of them barred."""
        word = self.upcoming()
        some = () if word == "-" else numbers_of(word)
        if not are_sorts(sorts, some) or len(some) < fewest or any([sort in barred for sort in some]):
            self.refuse()
        self.place += 1
        return some

    def finish(self):
        """Refuse a word too many."""
        if self.has_more():
            self.refuse()


def read_counts(many, text):
    """So many numbers, not all 0, or NoText(0, 0)."""
    numbers = numbers_of(text)
    if numbers is None or len(numbers) != many or not any([number > 0 for number in numbers]):
        raise NoText(0, 0)
    return numbers


def read_question(sorts, text):
    """A question of so many sorts, or NoText."""
    row = Row(0, text)
    question = take_question(row, sorts, 0)
    row.finish()
    return question


def take_question(row, sorts, within):
    """Read a question that stands within so many others."""
    if row.asked == MOST_QUESTIONS or within == MOST_WITHIN:
        row.refuse()
    row.asked += 1
    word = row.take_word(QUESTION_WORDS)
    parts = parts_of(word)
    if parts > 0:
        question = [word]
        for part in range(parts):
            question.append(take_question(row, sorts, within + 1))
        return tuple(question)
    if word == "more":
        these = row.take_sorts(sorts, 0, ())
        return (word, these, row.take_sorts(sorts, 0, these))
    some = row.take_sorts(sorts, 1, ())
    if word == "least":
        return (word, some, row.take_number(1, MOST_LEAST, ()))
    by = row.take_number(2, MOST_REST, ())
    return (word, some, by, row.take_number(0, by - 1, ()))


def read_rule(rows):
    """A rule, or NoText."""
    rooms = read_rooms(rows)
    starts = read_starts(rows, rooms)
    says = read_says(rows, rooms)
    meets = []
    # Below every pair of rooms, so that any meeting may come first.
    ahead = (0, -1)
    for number in range(3, len(rows)):
        meeting = read_meeting(rows, number, rooms, ahead)
        meets.append(meeting)
        ahead = meeting[:2]
    return (rooms, starts, tuple(meets), says)


def begun_row(rows, number, word):
    """The row of that number, its first word read; refused where rows lack."""
    if number >= len(rows):
        raise NoText(len(rows), 0)
    row = Row(number, rows[number])
    row.take_word((word,))
    return row


def read_rooms(rows):
    """How many rooms the first row tells."""
    row = begun_row(rows, 0, "rooms")
    rooms = row.take_number(1, MOST_ROOMS, ())
    row.finish()
    return rooms


def read_starts(rows, rooms):
    """The starts of the second row."""
    row = begun_row(rows, 1, "starts")
    starts = [row.take_number(0, rooms - 1, ())]
    while row.has_more() and len(starts) < MOST_SORTS:
        starts.append(row.take_number(0, rooms - 1, ()))
    row.finish()
    return tuple(starts)


def read_says(rows, rooms):
    """The truths of the third row."""
    row = begun_row(rows, 2, "says")
    truths = []
    for room in range(rooms):
        truths.append(row.take_word(("yes", "no")) == "yes")
    row.finish()
    return tuple(truths)


def read_meeting(rows, number, rooms, ahead):
    """The meeting of a row, behind one of the rooms ahead."""
    row = begun_row(rows, number, "meet")
    a = row.take_number(ahead[0], rooms - 1, ())
    least = ahead[1] + 1 if a == ahead[0] else a
    b = row.take_number(least, rooms - 1, ())
    c = row.take_number(0, rooms - 1, ())
    d = row.take_number(0, rooms - 1, unchanging(a, b, c))
    row.finish()
    return (a, b, c, d)


def unchanging(a, b, c):
    """Each d with which a meeting of a and b that has this c would change nothing."""
    return [d for d in (a, b) if (c, d) in ((a, b), (b, a))]
