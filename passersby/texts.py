"""Questions, beginnings, crowds and rules written as texts [10]."""

from passersby.questions import parts_of


def shown_counts(numbers):
    """A beginning or a crowd as a text."""
    return ",".join([str(number) for number in numbers])


def shown_sorts(some):
    """Sorts as a word; - of none, so that the word has signs."""
    return shown_counts(some) if len(some) > 0 else "-"


def shown_question(question):
    """A question as a text."""
    word = question[0]
    if parts_of(word) > 0:
        return " ".join([word] + [shown_question(part) for part in question[1:]])
    if word == "more":
        return " ".join([word, shown_sorts(question[1]), shown_sorts(question[2])])
    return " ".join([word, shown_sorts(question[1])] + [str(number) for number in question[2:]])


def shown_row(word, numbers):
    """A row of a first word and numbers."""
    return " ".join([word] + [str(number) for number in numbers])


def shown_rule(rule):
    """A rule as a list of rows."""
    truths = ["yes" if truth else "no" for truth in rule[3]]
    rows = [shown_row("rooms", rule[:1]), shown_row("starts", rule[1]), " ".join(["says"] + truths)]
    return rows + [shown_row("meet", meeting) for meeting in rule[2]]
