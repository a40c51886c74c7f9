"""Papers of the made rules of "least" and "more" [12, 31]."""

import itertools
import unittest

from passersby.counted import least_paper, more_paper
from passersby.making import made
from passersby.paperchecker import lets_paper
from tests.samples import bounds_of, walks_by


def some_sorts(sorts):
    return [some for many in range(1, sorts + 1) for some in itertools.combinations(range(sorts), many)]


class Least(unittest.TestCase):
    def test_each_is_let_by(self):
        for n in range(1, 10):
            for sorts in range(1, 5):
                for some in some_sorts(sorts) if n in (1, 2, 9) else [(0,), tuple(range(sorts))]:
                    question = ("least", some, n)
                    paper = least_paper(question, sorts)
                    self.assertIs(lets_paper(made(question, sorts), question, 1, paper), True, question)

    def test_no_other_rule_or_question(self):
        for n in range(1, 10):
            question = ("least", (0,), n)
            paper, rule = least_paper(question, 2), made(question, 2)
            for other in (("not", question), ("least", (0,), n + 1 if n < 9 else 1), ("least", (1,), n), ("least", (0, 1), n)):
                self.assertIs(lets_paper(rule, other, 1, paper), False)
                if other[0] == "least":
                    self.assertIs(lets_paper(made(other, 2), question, 1, paper), False)
                    self.assertIs(lets_paper(made(other, 2), other, 1, paper), False)

    def test_bounds(self):
        for n in range(1, 10):
            stages, facts, ranks, deep = bounds_of(least_paper(("least", (0,), n), 2))
            self.assertLessEqual((stages, facts, ranks), (3, 2, 1))
            self.assertLessEqual(deep, 11)

    def test_along_walks(self):
        for n in (1, 2, 5, 9):
            question = ("least", (0,), n)
            rule, paper = made(question, 2), least_paper(question, 2)
            for counts in ((n, 0), (n - 1, 30), (n + 1, 5), (40, 40), (1, 0)):
                walks_by(self, rule, question, paper, counts)


class More(unittest.TestCase):
    def test_each_is_let_by(self):
        for sorts in range(1, 5):
            for sides in itertools.product((0, 1, 2), repeat=sorts):
                these, those = (tuple(sort for sort in range(sorts) if sides[sort] == side) for side in (1, 2))
                question = ("more", these, those)
                self.assertIs(lets_paper(made(question, sorts), question, 1, more_paper(question, sorts)), True, question)

    def test_no_other_rule_or_question(self):
        question = ("more", (0,), (1,))
        paper, rule = more_paper(question, 3), made(question, 3)
        for other in (("not", question), ("more", (1,), (0,)), ("more", (0,), ()), ("more", (), (1,)), ("more", (0, 2), (1,)),
                      ("more", (0,), (1, 2))):
            self.assertIs(lets_paper(rule, other, 1, paper), False, other)
            if other[0] == "more":
                self.assertIs(lets_paper(made(other, 3), question, 1, paper), False, other)

    def test_along_walks(self):
        question = ("more", (0,), (1,))
        rule, paper = made(question, 3), more_paper(question, 3)
        for counts in ((1, 0, 0), (0, 1, 0), (0, 0, 1), (5, 5, 0), (5, 5, 20), (21, 20, 3), (20, 21, 3), (0, 0, 9)):
            walks_by(self, rule, question, paper, counts)


if __name__ == "__main__":
    unittest.main()
