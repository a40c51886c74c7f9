"""Questions and their truth [2, 7]."""

import itertools
import unittest

from passersby.questions import holds, is_question
from tests.samples import (EIGHT, FIVE_DEEP, LEAF, OTHER, THIRD, changed_at, deep_questions, nested, nested_word,
                           plain_questions, strange_things)


class Questions(unittest.TestCase):
    def told(self, truth, sorts, things):
        for thing in things:
            self.assertIs(is_question(sorts, thing), truth, str(thing)[:200])

    def test_plain_questions(self):
        self.told(True, 3, plain_questions())
        self.told(True, 4, plain_questions())

    def test_sorts_are_below_their_number(self):
        for sorts in (1, 2, 3, 4):
            for sort in (-1, 0, sorts - 1, sorts, sorts + 1, 10 ** 39):
                right = 0 <= sort < sorts
                self.told(right, sorts, [("least", (sort,), 1), ("rest", (sort,), 2, 0), ("more", (sort,), ()),
                                         ("more", (), (sort,)), ("not", ("least", (sort,), 1))])

    def test_sorts_rise_and_come_once(self):
        for some in itertools.product(range(4), repeat=3):
            right = some[0] < some[1] < some[2]
            self.told(right, 4, [("least", some, 1), ("rest", some, 2, 0), ("more", some, ()), ("more", (), some)])

    def test_some_are_one_at_least(self):
        self.told(False, 2, [("least", (), 1), ("rest", (), 2, 0)])
        self.told(True, 2, [("more", (), ()), ("more", (0, 1), ()), ("more", (), (0, 1))])

    def test_no_sort_in_both(self):
        self.told(False, 3, [("more", (0,), (0,)), ("more", (0, 1), (1, 2)), ("more", (2,), (0, 2)),
                             ("more", (0, 1, 2), (0, 1, 2))])
        self.told(True, 3, [("more", (0, 1), (2,)), ("more", (1,), (0, 2))])

    def test_sorts_of_other_kinds(self):
        for some in ([0], "0", ("0",), (None,), None, 0, (True,), (False,), (0, True), (False, 1), ((0,),), ([0],)):
            self.told(False, 2, [("least", some, 1), ("rest", some, 2, 0), ("more", some, ()), ("more", (), some)])

    def test_numbers_of_least(self):
        for n in (-1, 0, 1, 2, 8, 9, 10, 10 ** 39):
            self.told(1 <= n <= 9, 1, [("least", (0,), n)])
        self.told(False, 1, [("least", (0,), n) for n in (True, False, None, "1", (1,), [1])])

    def test_numbers_of_rest(self):
        for m in (-2, -1, 0, 1, 2, 3, 8, 9, 10, 11, 10 ** 39):
            for r in (-1, 0, 1, m - 1, m, m + 1, 10 ** 39):
                self.told(2 <= m <= 9 and 0 <= r < m, 1, [("rest", (0,), m, r)])
        self.told(False, 1, [("rest", (0,), m, 0) for m in (True, None, "2", (2,), [2])])
        self.told(False, 1, [("rest", (0,), 2, r) for r in (True, False, None, "0", (0,), [0])])

    def test_parts_left_out_too_many_and_in_another_order(self):
        for question in (LEAF, OTHER, THIRD, ("not", LEAF), ("both", LEAF, OTHER), ("either", LEAF, OTHER)):
            self.told(True, 2, [question])
            self.told(False, 2, [question[:-1], question[:1] + question[2:], question[1:], question + (1,),
                                 question + (LEAF,), list(question), question[::-1], question + question, (question,)])
        self.told(False, 2, [("least", 1, (0,)), ("rest", 3, (0,), 1), ("rest", (0,), 1, 3), ("both", LEAF, "not")])

    def test_other_words(self):
        for word in ("Least", "LEAST", "least ", "", "most", "and", "or", "rest", 0, None, True, ("least",), ["least"]):
            self.told(False, 2, [(word, (0,), 2), (word, LEAF)])
            self.told(False, 2, [("not", (word, (0,), 2))])
        self.told(False, 2, [("less", (0,), (1,)), ("Both", LEAF, LEAF), ("all", LEAF, LEAF), (("not",), LEAF)])

    def test_questions_within_questions(self):
        self.told(True, 2, deep_questions())
        self.told(False, 1, [question for question in deep_questions() if question != ("not", LEAF)])

    def test_wrong_parts_within(self):
        wrong = ("least", (0,), 0)
        self.told(False, 2, [("not", wrong), ("both", wrong, LEAF), ("both", LEAF, wrong), ("either", wrong, LEAF),
                             ("either", LEAF, wrong), ("not", ("not", ("not", wrong))), ("not", list(LEAF)),
                             ("both", LEAF, [*LEAF]), ("not", None), ("either", LEAF, 1), ("not", ())])

    def test_the_eighth_question(self):
        seven = ("both", ("both", LEAF, OTHER), ("either", THIRD, LEAF))
        self.told(True, 2, [seven])
        self.told(False, 2, [EIGHT, ("not", seven), ("both", seven, LEAF), ("both", ("not", LEAF), seven[1:]),
                             ("both", ("both", ("not", LEAF), OTHER), seven[2]), ("both", seven[1], ("both", seven[1], LEAF))])
        six = ("both", ("not", LEAF), ("either", THIRD, LEAF))
        self.told(True, 2, [six, ("not", six)])
        self.told(False, 2, [("both", six, LEAF), ("both", LEAF, six)])

    def test_one_within_four_others(self):
        deepest = ("not", ("not", ("not", LEAF)))
        self.told(True, 2, [deepest, ("both", LEAF, ("not", ("not", LEAF))), ("both", deepest[1], LEAF)])
        self.told(False, 2, [FIVE_DEEP, ("not", deepest), ("both", deepest, LEAF), ("either", LEAF, deepest)])
        self.told(False, 2, [nested_word("not", depth) for depth in (4, 5, 100, 199)])

    def test_any_thing(self):
        for sorts in (1, 2, 3, 4):
            self.told(False, sorts, strange_things())
        # Which of the strange things are right ones, in which place.
        right = {
            ("least", 0): ["'least'"], ("least", 1): ["(0,)"], ("least", 2): ["1", "7"],
            ("more", 1): ["()"], ("more", 2): ["()", "(0,)"],
            ("rest", 0): ["'rest'"], ("rest", 1): ["(0,)"], ("rest", 2): ["7"], ("rest", 3): ["0", "1"],
            ("not", 0): ["'not'"],
        }
        for question in (LEAF, OTHER, THIRD, ("not", LEAF), ("both", LEAF, OTHER)):
            for place in range(len(question)):
                for thing in strange_things():
                    fits = repr(thing) in right.get((question[0], place), [])
                    self.told(fits, 2, [changed_at(question, place, thing)])

    def test_one_thing_in_many_places(self):
        thing = LEAF
        for layer in range(14):
            thing = ("both", thing, thing)
        self.assertIs(is_question(2, thing), False)
        self.told(False, 2, [nested(tuple, 200, "not"), nested(list, 200, LEAF)])


class Truths(unittest.TestCase):
    def told(self, question, counts, truth):
        self.assertIs(holds(question, counts), truth, (question, counts))

    def test_least(self):
        for n in range(1, 10):
            self.told(("least", (0,), n), (n, 5), True)
            self.told(("least", (0,), n), (n - 1, 5), False)
            self.told(("least", (0,), n), (n + 1, 0), True)
            self.told(("least", (0, 2), n), (n - 1, 9, 1), True)
            self.told(("least", (0, 2), n), (n - 1, 9, 0), False)
        self.told(("least", (1,), 9), (1000000, 8), False)
        self.told(("least", (0,), 9), (1000000, 8), True)

    def test_more(self):
        question = ("more", (0,), (1,))
        for many in (0, 1, 5, 999999):
            self.told(question, (many + 1, many), True)
            self.told(question, (many, many + 1), False)
        for many in (1, 2, 1000000):
            self.told(question, (many, many), False)
        self.told(("more", (0, 2), (1, 3)), (500000, 1000000, 500001, 0), True)
        self.told(("more", (0, 2), (1, 3)), (500000, 1000000, 500000, 0), False)
        self.told(("more", (), ()), (7, 7), False)
        self.told(("more", (1,), ()), (7, 1), True)
        self.told(("more", (1,), ()), (7, 0), False)
        self.told(("more", (), (0,)), (0, 1), False)

    def test_rest(self):
        for m in range(2, 10):
            for r in range(m):
                for many in (r, r + m, 1000000 - 1000000 % m - m + r):
                    self.told(("rest", (0,), m, r), (many, 1), True)
                    self.told(("rest", (0,), m, r), (many + 1, 1), False)
                    if many > 0:
                        self.told(("rest", (0,), m, r), (many - 1, 1), False)
        self.told(("rest", (0, 1), 9, 2), (1000000, 1000000), True)
        self.told(("rest", (0, 1), 9, 3), (1000000, 1000000), False)
        self.told(("rest", (0, 2), 3, 0), (1, 1, 2), True)

    def test_words_over_questions(self):
        yes = ("least", (0,), 1)
        no = ("least", (1,), 1)
        for one, other in itertools.product((yes, no), repeat=2):
            self.told(("both", one, other), (1, 0), one == yes and other == yes)
            self.told(("either", one, other), (1, 0), one == yes or other == yes)
        self.told(("not", yes), (1, 0), False)
        self.told(("not", no), (1, 0), True)

    def test_deep_ones(self):
        for first, second in itertools.product(range(8), repeat=2):
            if first + second == 0:
                continue
            counts = (first, second)
            leaf = first >= 2
            other = second > first
            third = (first + second) % 3 == 1
            truths = [
                not leaf, leaf and other, third or leaf, not third, not (leaf or other) and third,
                other or (leaf and not third), leaf and other and (third or leaf),
                not (leaf and third) or not other,
            ]
            for question, truth in zip(deep_questions(), truths, strict=True):
                self.told(question, counts, truth)

    def test_nothing_is_changed(self):
        for question in deep_questions():
            before = repr(question)
            first = holds(question, (3, 4))
            self.assertEqual(first, holds(question, (3, 4)))
            self.assertEqual(repr(question), before)


if __name__ == "__main__":
    unittest.main()
