"""Papers of made rules, and of rules turned [31, 32]."""

from passersby.counted import least_paper
from passersby.counted import more_paper
from passersby.divided import rest_paper
from passersby.errors import TooMany
from passersby.making import made
from passersby.making import rooms_for
from passersby.together import put_together

MOST_ROOMS = 12


def paper_of(question, sorts):
    """A paper of the made rule of a question for so many sorts, for few 1; or TooMany."""
    if rooms_for(question) > MOST_ROOMS:
        raise TooMany()
    word = question[0]
    if word == "least":
        return least_paper(question, sorts)
    if word == "more":
        return more_paper(question, sorts)
    if word == "rest":
        return rest_paper(question, sorts)
    if word == "not":
        return turned_paper(paper_of(question[1], sorts))
    return put_together(word, given_of(question[1], sorts), given_of(question[2], sorts))


def given_of(question, sorts):
    """A made rule with its question, few and paper."""
    return (made(question, sorts), question, 1, paper_of(question, sorts))


def turned_paper(paper):
    """A paper of the rule turned, for the question turned by "not": all that it refutes is the same."""
    return (paper[0], tuple([turned_stage(stage) for stage in paper[1]]))


def turned_stage(stage):
    """A stage with the other truth, where it is an end."""
    if stage[0] == "on":
        return stage
    return stage[:2] + (not stage[2],) + stage[3:]
