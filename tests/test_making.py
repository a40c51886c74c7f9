"""Rules made for questions [12]."""

import itertools
import unittest

from passersby.coming import come
from passersby.crowds import begun, said
from passersby.errors import TooMany
from passersby.making import made, rooms_for, turned
from passersby.questions import holds
from passersby.rules import is_rule
from tests.samples import ALONE, MORE, ROOMY


def told_least(n):
    """The meetings of least, by the words."""
    meets = []
    for a, b in itertools.combinations_with_replacement(range(n + 1), 2):
        if a >= 1 and a + b < n:
            meets.append((a, b, 0, a + b))
        elif a >= 1 and b < n and a + b >= n or a < n and b == n:
            meets.append((a, b, n, n))
    return tuple(meets)


def told_rest(m, r):
    """The meetings of rest, by the words."""
    def word(room):
        return m + 1 if room == r else m

    meets = []
    for a, b in itertools.combinations_with_replacement(range(m + 2), 2):
        if b < m:
            meets.append((a, b, (a + b) % m, word((a + b) % m)))
        elif a < m and b != word(a):
            meets.append((a, b, a, word(a)))
    return tuple(meets)


def beginnings(sorts, hands):
    """All beginnings of at most so many hands."""
    return [counts for counts in itertools.product(range(hands + 1), repeat=sorts) if 1 <= sum(counts) <= hands]


def all_end_in(rule, crowd, truth):
    """Whether from each crowd that comes one comes that is settled to the truth."""
    word = "yes" if truth else "no"
    crowds = come(rule, crowd, 3000)
    settled = [here for here in crowds if all(said(rule, there) == word for there in come(rule, here, 3000))]
    return all(set(settled) & set(come(rule, here, 3000)) for here in crowds)


class Least(unittest.TestCase):
    def test_at_its_edges(self):
        self.assertEqual(made(("least", (0,), 1), 1), (2, (1,), ((0, 1, 1, 1),), (False, True)))
        self.assertEqual(made(("least", (1,), 2), 2), (
            3, (0, 1), ((0, 2, 2, 2), (1, 1, 2, 2), (1, 2, 2, 2)), (False, False, True)))
        self.assertEqual(made(("least", (0, 2), 3), 4), (
            4, (1, 0, 1, 0), ((0, 3, 3, 3), (1, 1, 0, 2), (1, 2, 3, 3), (1, 3, 3, 3), (2, 2, 3, 3), (2, 3, 3, 3)),
            (False, False, False, True)))

    def test_as_the_words_tell(self):
        for n in range(1, 10):
            says = (False,) * n + (True,)
            self.assertEqual(made(("least", (0, 1, 2), n), 3), (n + 1, (1, 1, 1), told_least(n), says))


class More(unittest.TestCase):
    def test_made(self):
        self.assertEqual(made(("more", (0,), (1,)), 2), MORE)
        self.assertEqual(made(("more", (3,), (0, 2)), 4), (4, (1, 3, 1, 0), MORE[2], MORE[3]))
        self.assertEqual(made(("more", (), ()), 2), (4, (3, 3), MORE[2], MORE[3]))
        self.assertEqual(made(("more", (0, 1), ()), 2), (4, (0, 0), MORE[2], MORE[3]))
        self.assertEqual(made(("more", (), (0,)), 1), (4, (1,), MORE[2], MORE[3]))


class Rest(unittest.TestCase):
    def test_at_its_edges(self):
        self.assertEqual(made(("rest", (0,), 2, 0), 1), (
            4, (1,), ((0, 0, 0, 3), (0, 1, 1, 2), (0, 2, 0, 3), (1, 1, 0, 3), (1, 3, 1, 2)), (True, False, False, True)))
        self.assertEqual(made(("rest", (1,), 2, 1), 2), (
            4, (0, 1), ((0, 0, 0, 2), (0, 1, 1, 3), (0, 3, 0, 2), (1, 1, 0, 2), (1, 2, 1, 3)),
            (False, True, False, True)))

    def test_as_the_words_tell(self):
        for m in range(2, 10):
            for r in range(m):
                says = tuple(room in (r, m + 1) for room in range(m + 2))
                self.assertEqual(made(("rest", (0, 2), m, r), 3), (m + 2, (1, 0, 1), told_rest(m, r), says))


class Turned(unittest.TestCase):
    def test_turned(self):
        self.assertEqual(turned(MORE), MORE[:3] + ((False, True, False, True),))
        self.assertEqual(turned(ROOMY), ROOMY[:3] + ((True, False, False, True),))
        self.assertEqual(turned(ALONE), (1, (0,), (), (False,)))
        for rule in (MORE, ROOMY, ALONE):
            before = repr(rule)
            self.assertEqual(turned(turned(rule)), rule)
            self.assertEqual(repr(rule), before)

    def test_not(self):
        question = ("rest", (0,), 3, 1)
        self.assertEqual(made(("not", question), 2), turned(made(question, 2)))
        self.assertEqual(made(("not", ("not", question)), 2), made(question, 2))


LEAST = ("least", (0,), 1)


class SideBySide(unittest.TestCase):
    def test_both_and_either_of_small_ones(self):
        starts, meets = (3, 1), ((0, 1, 1, 1), (0, 2, 2, 2), (0, 3, 3, 3), (1, 2, 3, 3), (1, 3, 3, 3), (2, 3, 3, 3))
        one, other = LEAST, ("least", (0, 1), 1)
        self.assertEqual(made(("both", one, other), 2), (4, starts, meets, (False, False, False, True)))
        self.assertEqual(made(("either", one, other), 2), (4, starts, meets, (False, True, True, True)))

    def test_the_one_is_the_first(self):
        rule = made(("both", ("least", (0,), 2), ("least", (1,), 1)), 2)
        self.assertEqual(rule[:2], (6, (2, 1)))
        rule = made(("both", ("least", (1,), 1), ("least", (0,), 2)), 2)
        self.assertEqual(rule[:2], (6, (1, 3)))


class HowManyRooms(unittest.TestCase):
    def test_rooms_for(self):
        for question, rooms in [
            (LEAST, 2), (("least", (0,), 9), 10), (("more", (), ()), 4), (("rest", (0,), 2, 1), 4),
            (("rest", (0,), 9, 8), 11), (("not", ("rest", (0,), 9, 8)), 11), (("both", LEAST, ("more", (), ())), 8),
            (("either", ("least", (0,), 4), ("not", ("least", (0,), 7))), 40),
            (("both", ("rest", (0,), 9, 0), ("either", ("rest", (0,), 8, 0), ("least", (0,), 8))), 990),
        ]:
            self.assertEqual(rooms_for(question), rooms, question)
            if rooms <= 40:
                self.assertEqual(made(question, 1)[0], rooms)

    def test_too_many_just_beyond_forty(self):
        for n, m in itertools.product(range(1, 10), range(2, 10)):
            for word in ("both", "either"):
                question = (word, ("least", (0,), n), ("rest", (0,), m, 1))
                self.assertEqual(rooms_for(question), (n + 1) * (m + 2))
                if (n + 1) * (m + 2) > 40:
                    self.refused(question)
                else:
                    self.assertEqual(made(question, 1)[0], (n + 1) * (m + 2))
        forty = ("both", ("least", (0,), 4), ("both", LEAST, ("more", (), (0,))))
        self.assertEqual(made(forty, 1)[0], 40)
        self.assertEqual(made(("not", forty), 1)[0], 40)
        self.refused(("both", forty, LEAST))
        self.refused(("either", ("least", (0,), 6), ("least", (0,), 5)))
        self.refused(("not", ("either", ("least", (0,), 6), ("least", (0,), 5))))
        self.refused(("both", ("both", ("least", (0,), 9), ("least", (0,), 9)), LEAST))

    def refused(self, question):
        with self.assertRaises(TooMany):
            made(question, 1)


class Answers(unittest.TestCase):
    """Made rules are rules, and answer their questions where a few hands begin."""

    def check(self, question, sorts, hands):
        before = repr(question)
        rule = made(question, sorts)
        self.assertIs(is_rule(rule), True)
        self.assertEqual(repr(question), before)
        for counts in beginnings(sorts, hands):
            self.assertTrue(all_end_in(rule, begun(rule, counts), holds(question, counts)), (question, counts))

    def test_plain(self):
        for question in [("least", (0,), 1), ("least", (0,), 3), ("least", (0, 1), 4), ("more", (0,), (1,)),
                         ("more", (), (1,)), ("more", (1,), ()), ("rest", (0,), 2, 0), ("rest", (0, 1), 3, 2)]:
            self.check(question, 2, 5)

    def test_words_over_questions(self):
        more, least = ("more", (0,), (1,)), ("least", (1,), 2)
        for question in [("not", more), ("both", more, least), ("either", ("not", least), more),
                         ("both", ("rest", (0,), 2, 1), ("not", more))]:
            self.check(question, 2, 4)


if __name__ == "__main__":
    unittest.main()
