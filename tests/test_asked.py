"""The rows of facts by which a question has a truth [29]."""

import itertools
import unittest

from passersby.asked import rows_of
from passersby.facts import fact_holds, is_fact
from passersby.questions import holds
from tests.samples import beginnings_of, deep_questions, plain_questions


def least(number, *ofs):
    """A least fact of three rooms."""
    return ("least", (number, (0, 0, 0), ofs))


def rest(m, number, *ofs):
    return ("rest", (number, (0, 0, 0), ofs), m)


P = ("least", (0,), 4)
Q = ("rest", (1,), 3, 1)
YES, NO = (least(-4, 1, 0),), (least(3, -1, 0),)
ONE, NOUGHT, TWO = (rest(3, -1, 0, 1),), (rest(3, 0, 0, 1),), (rest(3, -2, 0, 1),)


class Words(unittest.TestCase):
    def told(self, question, truth, sorts=2):
        rows = rows_of(3, sorts, question, truth)
        self.assertIs(type(rows), list)
        self.assertTrue(all(type(row) is tuple for row in rows))
        self.assertTrue(all(is_fact(3, sorts, fact) for row in rows for fact in row))
        return rows

    def test_least(self):
        self.assertEqual(self.told(P, True), [YES])
        self.assertEqual(self.told(P, False), [NO])
        self.assertEqual(self.told(("least", (0, 2), 1), True, 3), [(least(-1, 1, 0, 1),)])
        self.assertEqual(self.told(("least", (0, 2), 1), False, 3), [(least(0, -1, 0, -1),)])
        self.assertEqual(self.told(("least", (0, 1), 9), True), [(least(-9, 1, 1),)])
        self.assertEqual(self.told(("least", (0, 1), 9), False), [(least(8, -1, -1),)])

    def test_more(self):
        self.assertEqual(self.told(("more", (0,), (1,)), True), [(least(-1, 1, -1),)])
        self.assertEqual(self.told(("more", (0,), (1,)), False), [(least(0, -1, 1),)])
        self.assertEqual(self.told(("more", (1, 3), (0,)), True, 4), [(least(-1, -1, 1, 0, 1),)])
        self.assertEqual(self.told(("more", (1, 3), (0,)), False, 4), [(least(0, 1, -1, 0, -1),)])
        self.assertEqual(self.told(("more", (), ()), True), [(least(-1, 0, 0),)])
        self.assertEqual(self.told(("more", (), ()), False), [(least(0, 0, 0),)])

    def test_rest(self):
        self.assertEqual(self.told(Q, True), [ONE])
        self.assertEqual(self.told(Q, False), [NOUGHT, TWO])
        self.assertEqual(self.told(("rest", (0, 1), 2, 0), True), [(rest(2, 0, 1, 1),)])
        self.assertEqual(self.told(("rest", (0, 1), 2, 0), False), [(rest(2, -1, 1, 1),)])
        for r in range(9):
            others = [(rest(9, -k, 1, 0),) for k in range(9) if k != r]
            self.assertEqual(self.told(("rest", (0,), 9, r), True), [(rest(9, -r, 1, 0),)])
            self.assertEqual(self.told(("rest", (0,), 9, r), False), others)

    def test_not(self):
        for question in (P, Q, ("both", P, Q), ("either", Q, P)):
            for truth in (True, False):
                self.assertEqual(self.told(("not", question), truth), self.told(question, not truth))
                self.assertEqual(self.told(("not", ("not", question)), truth), self.told(question, truth))

    def test_both_and_either(self):
        self.assertEqual(self.told(("both", P, Q), True), [YES + ONE])
        self.assertEqual(self.told(("both", Q, P), True), [ONE + YES])
        self.assertEqual(self.told(("both", P, Q), False), [NO, NOUGHT, TWO])
        self.assertEqual(self.told(("both", Q, P), False), [NOUGHT, TWO, NO])
        self.assertEqual(self.told(("either", P, Q), True), [YES, ONE])
        self.assertEqual(self.told(("either", Q, P), True), [ONE, YES])
        self.assertEqual(self.told(("either", P, Q), False), [NO + NOUGHT, NO + TWO])
        self.assertEqual(self.told(("either", Q, P), False), [NOUGHT + NO, TWO + NO])

    def test_by_the_one_then_by_the_other(self):
        other = ("rest", (0,), 3, 0)
        ones = [(rest(3, -1, 1, 0),), (rest(3, -2, 1, 0),)]
        expected = [row + behind for row in ones for behind in (NOUGHT, TWO)]
        self.assertEqual(self.told(("either", other, Q), False), expected)
        self.assertEqual(self.told(("both", ("not", other), ("not", Q)), True), expected)
        self.assertEqual(self.told(("both", other, Q), False), ones + [NOUGHT, TWO])

    def test_within_one_another(self):
        inner = ("either", P, Q)
        self.assertEqual(self.told(("both", inner, Q), True), [YES + ONE, ONE + ONE])
        self.assertEqual(self.told(("both", inner, P), False), [NO + NOUGHT, NO + TWO, NO])
        self.assertEqual(self.told(("either", ("both", P, Q), inner), False),
                         [row + behind for row in (NO, NOUGHT, TWO) for behind in (NO + NOUGHT, NO + TWO)])
        self.assertEqual(self.told(("either", ("not", inner), P), True), [NO + NOUGHT, NO + TWO, YES])

    def test_no_rooms_hands(self):
        for rooms in (1, 2, 40):
            for row in rows_of(rooms, 2, ("either", P, ("not", Q)), True):
                for fact in row:
                    self.assertEqual(fact[1][1], (0,) * rooms)


class Truths(unittest.TestCase):
    def test_just_where_all_facts_of_some_row_hold(self):
        for sorts, questions in ((3, plain_questions()), (2, deep_questions())):
            for question in questions:
                rows = {truth: rows_of(2, sorts, question, truth) for truth in (True, False)}
                for counts in beginnings_of(sorts, 5) + [(9,) * sorts, (10,) + (0,) * (sorts - 1)]:
                    for truth, crowd in itertools.product((True, False), ((1, 0), (0, 7))):
                        told = any(all(fact_holds(fact, crowd, counts) for fact in row) for row in rows[truth])
                        self.assertIs(told, holds(question, counts) is truth, (question, counts))

    def test_the_askers_own(self):
        question = ("either", P, Q)
        before = repr(question)
        for truth in (True, False):
            told = rows_of(3, 2, question, truth)
            kept = list(told)
            told.clear()
            self.assertEqual(rows_of(3, 2, question, truth), kept)
        self.assertEqual(repr(question), before)


if __name__ == "__main__":
    unittest.main()
