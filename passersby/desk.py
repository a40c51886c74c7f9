"""A desk: it keeps a rule, a question and a crowd, is told lines, and answers each with a text [35]."""

from passersby.coming import come
from passersby.crowds import begun
from passersby.crowds import can
from passersby.crowds import met
from passersby.crowds import said
from passersby.errors import NoCrowd
from passersby.errors import NoLine
from passersby.errors import NoRule
from passersby.errors import NoText
from passersby.errors import TooMany
from passersby.errs import err_of
from passersby.fewer import fewer
from passersby.making import made
from passersby.making import rooms_for
from passersby.paperchecker import lets_paper
from passersby.papers import MOST_ROOMS
from passersby.papers import paper_of
from passersby.questions import holds
from passersby.reading import Row
from passersby.reading import number_of
from passersby.reading import read_counts
from passersby.reading import read_question
from passersby.reading import read_rule
from passersby.reading import take_question
from passersby.rings import ends_of
from passersby.rules import MOST_SORTS
from passersby.rules import is_counts
from passersby.settling import answers
from passersby.texts import shown_counts
from passersby.texts import shown_question
from passersby.texts import shown_rule

MOST_FIGURES = 4
MOST_ERR = 6
MOST_GONE_THROUGH = 60
WORDS_ALONE = ("rule", "rows", "question", "fewer", "crowd", "can", "says", "truth", "come", "answers", "ends", "check")
WORDS_FREE = ("rule", "make")
WORDS_OF_CROWD = ("crowd", "meet", "can", "says", "truth", "come", "answers", "ends")


class Desk:
    """What is kept: a rule with its question, and a crowd with its beginning; None of what there is not."""

    def __init__(self):
        self.kept_rule = None
        self.kept_question = None
        self.kept_crowd = None
        self.kept_counts = None

    def say(self, line):
        """The answer to a line, or its refusal, which changes nothing."""
        words = words_of(line)
        if words[0] not in WORDS_FREE and self.kept_rule is None:
            raise NoRule()
        if words[0] in WORDS_OF_CROWD and self.kept_crowd is None:
            raise NoCrowd()
        if words[0] == "rule":
            return self.take_rule(line.split("\n")[1:])
        if words[0] == "make":
            return self.take_made(int(words[1]), " ".join(words[2:]))
        if words[0] == "begin":
            return self.take_counts(words[1])
        if words[0] == "meet":
            return self.take_meeting(int(words[1]))
        if words[0] in WORDS_OF_CROWD:
            return self.tell_of_crowd(words[0])
        return self.tell_of_rule(words)

    def put_rule(self, rule, question):
        """Keep a rule and its question; a crowd of another one is put away."""
        self.kept_rule = rule
        self.kept_question = question
        self.kept_crowd = None
        self.kept_counts = None

    def take_rule(self, rows):
        """Keep a rule told by rows, the question in the last one; or NoText, of no rows as of a rule's that lack."""
        rule = read_rule(rows[:-1])
        row = Row(len(rows) - 1, rows[-1])
        row.take_word(("ask",))
        question = take_question(row, len(rule[1]), 0)
        row.finish()
        self.put_rule(rule, question)
        return "ok"

    def take_made(self, sorts, text):
        """Keep the made rule of a question; or NoText, TooMany."""
        question = read_question(sorts, text)
        self.put_rule(made(question, sorts), question)
        return str(self.kept_rule[0])

    def take_counts(self, word):
        """Keep the crowd of a beginning; or NoText."""
        sorts = len(self.kept_rule[1])
        counts = read_counts(sorts, word)
        if not is_counts(sorts, counts):
            raise NoText(0, 0)
        self.kept_crowd = begun(self.kept_rule, counts)
        self.kept_counts = counts
        return "ok"

    def take_meeting(self, number):
        """Keep the crowd behind a meeting; or NoMeeting."""
        self.kept_crowd = met(self.kept_rule, self.kept_crowd, number)
        return "ok"

    def tell_of_rule(self, words):
        """What is asked of the rule and its question."""
        rule = self.kept_rule
        if words[0] == "rows":
            return "; ".join(shown_rule(rule))
        if words[0] == "question":
            return shown_question(self.kept_question)
        if words[0] == "fewer":
            return str(fewer(rule)[0][0])
        if words[0] == "check":
            return yes_or_no(is_shown(rule, self.kept_question))
        paper = err_of(rule, self.kept_question, int(words[1]))
        return "none" if paper is None else shown_counts(paper[0])

    def tell_of_crowd(self, word):
        """What is asked of the crowd and its beginning."""
        if word == "crowd":
            return shown_counts(self.kept_crowd)
        if word == "can":
            numbers = [str(number) for number in can(self.kept_rule, self.kept_crowd)]
            return " ".join(numbers) if len(numbers) > 0 else "-"
        if word == "says":
            return said(self.kept_rule, self.kept_crowd)
        if word == "truth":
            return yes_or_no(holds(self.kept_question, self.kept_counts))
        return self.tell_of_all(word)

    def tell_of_all(self, word):
        """What is told by going through all that comes; or TooMany."""
        if sum(self.kept_crowd) > MOST_GONE_THROUGH:
            raise TooMany()
        if word == "come":
            return str(len(come(self.kept_rule, self.kept_crowd)))
        if word == "ends":
            return str(len(ends_of(self.kept_rule, self.kept_crowd)))
        return yes_or_no(answers(self.kept_rule, self.kept_question, self.kept_counts))


def yes_or_no(truth):
    """A truth as a word."""
    return "yes" if truth else "no"


def words_of(line):
    """The words of the first row of a line, or NoLine."""
    rows = line.split("\n")
    words = rows[0].split(" ")
    if len(rows) > 1 and rows[0] != "rule" or not is_line(words):
        raise NoLine(line)
    return words


def is_line(words):
    """Whether words are those of a line."""
    if words[0] in WORDS_ALONE:
        return len(words) == 1
    if words[0] == "make":
        return len(words) > 2 and is_number(words[1], 1, MOST_SORTS)
    if len(words) != 2:
        return False
    if words[0] == "meet":
        return len(words[1]) <= MOST_FIGURES and number_of(words[1]) is not None
    return words[0] == "begin" or words[0] == "err" and is_number(words[1], 1, MOST_ERR)


def is_number(word, least, most):
    """Whether a word writes a number from least to most."""
    number = number_of(word)
    return number is not None and least <= number <= most


def is_shown(rule, question):
    """Whether a rule is the made one of a question, and its told paper is let by."""
    if rooms_for(question) > MOST_ROOMS or rule != made(question, len(rule[1])):
        return False
    return lets_paper(rule, question, 1, paper_of(question, len(rule[1])))
