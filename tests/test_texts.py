"""Texts of questions, beginnings, crowds and rules [10]."""

import unittest

from passersby.making import made
from passersby.reading import read_counts, read_question, read_rule
from passersby.texts import shown_counts, shown_question, shown_rule
from tests.samples import ALONE, MORE, ROOMY, deep_questions, plain_questions


def forty():
    """A rule of forty rooms that tells all its meetings."""
    meets = [(a, b, (a + 1) % 40, (b + 3) % 40) for a in range(40) for b in range(a, 40)]
    changing = [meet for meet in meets if sorted(meet[:2]) != sorted(meet[2:])]
    return (40, (39, 0, 17, 39), tuple(changing), tuple(room % 3 == 0 for room in range(40)))


class Shown(unittest.TestCase):
    def test_counts(self):
        self.assertEqual(shown_counts((1,)), "1")
        self.assertEqual(shown_counts((0, 10, 200)), "0,10,200")
        self.assertEqual(shown_counts((1000000, 0)), "1000000,0")
        self.assertEqual(shown_counts((10 ** 30, 1)), "1" + "0" * 30 + ",1")

    def test_questions(self):
        for question, text in [
            (("least", (0,), 1), "least 0 1"),
            (("least", (0, 2, 3), 9), "least 0,2,3 9"),
            (("more", (0,), (1,)), "more 0 1"),
            (("more", (1, 3), (0, 2)), "more 1,3 0,2"),
            (("more", (), ()), "more - -"),
            (("more", (0,), ()), "more 0 -"),
            (("more", (), (0, 1)), "more - 0,1"),
            (("rest", (0, 1), 9, 8), "rest 0,1 9 8"),
            (("rest", (1,), 2, 0), "rest 1 2 0"),
            (("not", ("least", (0,), 1)), "not least 0 1"),
            (("both", ("least", (0,), 1), ("more", (), (1,))), "both least 0 1 more - 1"),
            (("either", ("not", ("rest", (0,), 3, 2)), ("least", (1,), 4)), "either not rest 0 3 2 least 1 4"),
        ]:
            self.assertEqual(shown_question(question), text)

    def test_rules(self):
        self.assertEqual(shown_rule(ALONE), ["rooms 1", "starts 0", "says yes"])
        self.assertEqual(shown_rule(MORE), ["rooms 4", "starts 0 1", "says yes no yes no", "meet 0 1 2 3",
                                            "meet 0 3 0 2", "meet 1 2 1 3", "meet 2 3 3 3"])
        self.assertEqual(shown_rule(ROOMY)[1:4], ["starts 2 0 2", "says no yes yes no", "meet 0 0 1 2"])
        rows = shown_rule(forty())
        self.assertEqual(rows[:2], ["rooms 40", "starts 39 0 17 39"])
        self.assertEqual(rows[-1], "meet 39 39 0 2")

    def test_kinds(self):
        self.assertIs(type(shown_rule(MORE)), list)
        self.assertEqual({type(row) for row in shown_rule(MORE)}, {str})

    def test_a_told_list_is_the_askers_own(self):
        rows = shown_rule(MORE)
        rows.append("meet")
        rows[0] = ""
        self.assertEqual(shown_rule(MORE)[0], "rooms 4")
        self.assertEqual(len(shown_rule(MORE)), 7)


class ShownAndReadAgain(unittest.TestCase):
    def test_questions(self):
        for question in plain_questions() + deep_questions():
            told = read_question(3, shown_question(question))
            self.assertEqual(repr(told), repr(question))

    def test_counts(self):
        for numbers in ((1,), (0, 7), (1000000, 0, 999999999, 10), (0,) * 39 + (60,)):
            self.assertEqual(repr(read_counts(len(numbers), shown_counts(numbers))), repr(numbers))

    def test_rules(self):
        rules = [ALONE, MORE, ROOMY, forty(), (40, (0,), (), (False,) * 40)]
        rules.extend(made(question, 2) for question in deep_questions()[:4])
        for rule in rules:
            before = repr(rule)
            self.assertEqual(repr(read_rule(shown_rule(rule))), before)
            self.assertEqual(repr(rule), before)


if __name__ == "__main__":
    unittest.main()
