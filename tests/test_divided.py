"""Papers of the made rules of "rest" [12, 31]."""

import unittest

from passersby.divided import rest_paper
from passersby.making import made
from passersby.paperchecker import lets_paper
from tests.samples import bounds_of, walks_by


class Rest(unittest.TestCase):
    def test_each_is_let_by(self):
        for m in range(2, 10):
            for r in range(m):
                for sorts, some in ((1, (0,)), (4, (1, 3))) if m < 8 else ((2, (1,)),):
                    question = ("rest", some, m, r)
                    paper = rest_paper(question, sorts)
                    self.assertIs(lets_paper(made(question, sorts), question, 1, paper), True, question)

    def test_no_other_rule_or_question(self):
        for m in range(2, 6):
            for r in range(m):
                question = ("rest", (0,), m, r)
                paper, rule = rest_paper(question, 2), made(question, 2)
                for other in (("not", question), ("rest", (1,), m, r), ("rest", (0, 1), m, r), ("rest", (0,), m, (r + 1) % m),
                              ("rest", (0,), m + 1, r)):
                    self.assertIs(lets_paper(rule, other, 1, paper), False, other)
                    if other[0] == "rest":
                        self.assertIs(lets_paper(made(other, 2), question, 1, paper), False, other)

    def test_bounds(self):
        for m in range(2, 10):
            stages, facts, ranks, deep = bounds_of(rest_paper(("rest", (0,), m, 1), 2))
            self.assertLessEqual((stages, facts, ranks), (2 * m, 3, 2))
            self.assertLessEqual(deep, 11)

    def test_along_walks(self):
        for m, r in ((2, 0), (3, 1), (5, 4), (9, 0)):
            question = ("rest", (0,), m, r)
            rule, paper = made(question, 2), rest_paper(question, 2)
            for counts in ((1, 0), (0, 1), (m, 0), (m + r, 7), (20, 20), (0, 25)):
                walks_by(self, rule, question, paper, counts)


if __name__ == "__main__":
    unittest.main()
