"""Refutations, and what they show [25, 26]."""

import itertools
import random
import unittest

from passersby.facts import fact_holds, not_of
from passersby.refuting import refutes, shows
from tests.samples import changed_at, nested, strange_things

BOUND = 10 ** 15
NOUGHT = (0, (0, 0), (0,))


def least(number, one=0, other=0, sort=0):
    return ("least", (number, (one, other), (sort,)))


def same(number, one=0, other=0, sort=0):
    return ("same", (number, (one, other), (sort,)))


def rest(m, number, one=0, other=0, sort=0):
    return ("rest", (number, (one, other), (sort,)), m)


# A fact that never holds, and what refutes it, also where more facts stand behind it.
WRONG = least(-1)
LEAF = ("sum", ((0, 1),))


def told(facts, thing):
    """Whether a thing refutes facts of two rooms and one sort; always True or False."""
    answer = refutes(2, 1, tuple(facts), thing)
    assert type(answer) is bool
    return answer


def shown(facts, fact, thing):
    answer = shows(2, 1, tuple(facts), fact, thing)
    assert type(answer) is bool
    return answer


def may_hold(facts):
    """Whether all facts hold at some small crowd and beginning."""
    return any(all(fact_holds(fact, crowd, (many,)) for fact in facts)
               for crowd in itertools.product(range(7), repeat=2) for many in range(7))


class Sums(unittest.TestCase):
    def test_right_ones(self):
        for facts, times in (
            ((least(-1),), ((0, 1),)), ((least(-1, -1, -1, -1),), ((0, 7),)), ((least(-5), least(-1)), ((1, 1),)),
            ((least(-3, 1), least(1, -1)), ((0, 1), (1, 1))), ((least(-3, 2), least(2, -3)), ((0, 3), (1, 2))),
            ((same(1, 1),), ((0, -1),)), ((same(-1, -1),), ((0, 1),)), ((same(0, 1), least(-1, 1)), ((0, -1), (1, 1))),
            ((same(0, 1), least(-1, -1)), ((0, 1), (1, 1))), ((rest(2, 1), least(-1)), ((1, 1),)),
            ((least(-1, 0, 0, 5), same(0, 0, 0, 1)), ((0, 1), (1, -5))),
            ((least(0, 5), least(0, 0, 5), least(-1, -1, -1)), ((2, 1),)),
            ((least(-1),), ((0, BOUND),)), ((same(1),), ((0, -BOUND),)), ((same(-1),), ((0, BOUND),)),
            ((least(-BOUND, BOUND), least(BOUND - 1, -BOUND)), ((0, BOUND), (1, BOUND))),
        ):
            self.assertIs(told(facts, ("sum", times)), True, (facts, times))
            self.assertFalse(may_hold([facts[i] for i, t in times]))

    def test_the_numbers_at_their_edges(self):
        for number, right in ((-2, True), (-1, True), (0, False), (1, False)):
            self.assertIs(told([least(number)], LEAF), right)
            self.assertIs(told([same(number)], LEAF), right)
            self.assertIs(told([same(-number)], ("sum", ((0, -1),))), right)
            self.assertIs(told([least(number - 3, 1), least(3, -1)], ("sum", ((0, 1), (1, 1)))), right)
        for other, right in ((-1, True), (0, True), (1, False)):
            for place in range(3):
                numbers = changed_at((0, 0, 0), place, other)
                self.assertIs(told([least(-1, *numbers)], LEAF), right)
                self.assertIs(told([same(-1, *numbers)], LEAF), right)
                self.assertIs(told([same(1, *[-number for number in numbers])], ("sum", ((0, -1),))), right)
                back = [-3 * (k == place) for k in range(3)]
                there = [3 * (k == place) + number for k, number in enumerate(numbers)]
                self.assertIs(told([least(-1, *there), least(0, *back)], ("sum", ((0, 1), (1, 1)))), right)

    def test_facts_by_their_kind(self):
        for t, right in ((1, True), (2, True), (BOUND, True), (0, False), (-1, False), (BOUND + 1, False), (True, False)):
            self.assertIs(told([least(-1)], ("sum", ((0, t),))), right, t)
        for t, right in ((-1, True), (-BOUND, True), (0, False), (-BOUND - 1, False), (1, False), ("1", False)):
            self.assertIs(told([same(1)], ("sum", ((0, t),))), right, t)
        for t in (-2, -1, 0, 1, 2):
            self.assertIs(told([rest(2, -1)], ("sum", ((0, t),))), False)
            self.assertIs(told([least(-1), rest(2, 0)], ("sum", ((0, 1), (1, t)))), False)
            self.assertIs(told([least(-1), least(1)], ("sum", ((0, 9), (1, t)))), t > 0)

    def test_a_least_fact_below_one(self):
        # With it so many times below 0 the sum would be below 0; it shows nothing.
        self.assertIs(told([least(1)], ("sum", ((0, -1),))), False)
        self.assertIs(told([least(-1), least(-2)], ("sum", ((0, 3), (1, -1)))), False)

    def test_numbers_of_facts(self):
        facts = [least(-1), least(-1), least(-1)]
        for places, right in (((0,), True), ((2,), True), ((0, 1, 2), True), ((0, 2), True), ((1, 0), False),
                              ((0, 0), False), ((2, 1), False), ((0, 1, 1), False), ((3,), False), ((0, 3), False),
                              ((-1,), False), ((-1, 0), False), ((True,), False), ((0, True), False), (("0",), False),
                              ((None,), False), (((0,),), False), ((10 ** 39,), False), ((), False)):
            self.assertIs(told(facts, ("sum", tuple((i, 1) for i in places))), right, places)

    def test_of_another_kind(self):
        for thing in (["sum", ((0, 1),)], ("sum", [(0, 1)]), ("sum", ([0, 1],)), ("sum",), ("sum", ((0, 1),), ()),
                      ("sum", (0, 1)), ("sum", ((0,),)), ("sum", ((0, 1, 1),)), ("sum", ()), ("sum", None),
                      ("sum", 1), ("Sum", ((0, 1),)), (None, ((0, 1),)), ("sum", ((0, 1), None)), ("", ((0, 1),)),
                      ("sum", ((0, None),)), ("sum", ((0, (1,)),)), ("sum", {0: 1}), ("sum", "01"), ("rest", ((0, 1),))):
            self.assertIs(told([WRONG], thing), False, thing)
        self.assertIs(told([], ("sum", ())), False)
        self.assertIs(told([], LEAF), False)


class Rests(unittest.TestCase):
    def test_right_ones(self):
        for facts, m, times in (
            ((rest(2, 1),), 2, ((0, 1),)), ((rest(99, 1),), 99, ((0, -1),)), ((same(1, 2, 4, 6),), 2, ((0, 1),)),
            ((same(1, 1), same(0, 1)), 2, ((0, 1), (1, 1))), ((rest(6, 3, 2, 0, 4),), 2, ((0, 1),)),
            ((rest(6, 1, 3, 0, 0),), 3, ((0, 1),)), ((rest(4, 1, 1), rest(6, 0, 1)), 2, ((0, 1), (1, -1))),
            ((least(-9), rest(3, 1, 1), same(0, 1)), 3, ((1, 2), (2, 1))), ((rest(98, 1),), 7, ((0, BOUND),)),
            ((rest(98, 1),), 7, ((0, -BOUND),)), ((same(1, 99, 198, -99),), 99, ((0, 1),)),
        ):
            self.assertIs(told(facts, ("rest", m, times)), True, (facts, m, times))
            self.assertFalse(may_hold([facts[i] for i, t in times]))

    def test_the_bounds_of_m(self):
        for m in range(-3, 103):
            self.assertIs(told([same(1)], ("rest", m, ((0, 1),))), 2 <= m <= 99, m)
        for m in (True, None, "2", (2,), [2], 10 ** 39):
            self.assertIs(told([same(1)], ("rest", m, ((0, 1),))), False)

    def test_m_divides_the_m_of_a_rest_fact(self):
        for m in range(2, 100):
            for own in (2, 6, 12, 60, 97, 99):
                self.assertIs(told([rest(own, 1)], ("rest", m, ((0, 1),))), own % m == 0)

    def test_m_divides_all_but_the_number(self):
        for m in (2, 3, 10):
            for number in range(-11, 12):
                self.assertIs(told([same(number)], ("rest", m, ((0, 1),))), number % m != 0)
                for place in range(3):
                    numbers = changed_at((0, 0, 0), place, number)
                    self.assertIs(told([same(1, *numbers)], ("rest", m, ((0, 1),))), number % m == 0)
                    self.assertIs(told([rest(m, 1, *numbers)], ("rest", m, ((0, 1),))), number % m == 0)
        # What is divided only when it comes together.
        self.assertIs(told([same(1, 1), rest(2, 0, 1)], ("rest", 2, ((0, 1), (1, 1)))), True)
        self.assertIs(told([same(1, 1), rest(2, 1, 1)], ("rest", 2, ((0, 1), (1, 1)))), False)

    def test_no_least_fact(self):
        for t in (-1, 1, 2):
            self.assertIs(told([least(1)], ("rest", 2, ((0, t),))), False)
            self.assertIs(told([same(1), least(0)], ("rest", 2, ((0, 1), (1, t)))), False)
        self.assertIs(told([same(1), least(0)], ("rest", 2, ((0, 1),))), True)

    def test_times(self):
        facts = [rest(3, 1), same(0), rest(3, 0)]
        for times, right in ((((0, 1),), True), (((0, 2),), True), (((0, 3),), False), (((0, 0),), False),
                             (((0, BOUND),), True), (((0, BOUND + 1),), False), (((0, -BOUND),), True),
                             (((0, -BOUND - 1),), False), (((0, True),), False), (((0, 1), (1, 0)), False),
                             (((0, 1), (1, 5), (2, -5)), True), (((1, 1), (0, 1)), False), (((0, 1), (0, 1)), False),
                             (((0, 1), (3, 1)), False), (((-1, 1),), False), (((False, 1),), False), ((), False),
                             ([(0, 1)], False), (([0, 1],), False), (((0, 1, 1),), False), (((0,),), False),
                             (None, False), (0, False)):
            self.assertIs(told(facts, ("rest", 3, times)), right, times)

    def test_of_another_kind(self):
        right = ("rest", 2, ((0, 1),))
        self.assertIs(told([same(1)], right), True)
        for thing in (list(right), right[:2], right + ((),), ("rest", ((0, 1),), 2), ("Rest",) + right[1:]):
            self.assertIs(told([same(1)], thing), False)


class Splits(unittest.TestCase):
    def setUp(self):
        # Of one room's hands less those of the other: 0 or more, and below 0.
        self.form = (0, (1, -1), (0,))
        self.facts = [least(-1, -1, 1), least(0, 1, -1)]
        self.one = ("sum", ((0, 1), (2, 1)))
        self.other = ("sum", ((1, 1), (2, 1)))

    def test_right_ones(self):
        self.assertIs(told(self.facts, ("split", self.form, self.one, self.other)), True)
        # Hands are never below 0, so NOT of how many there are in a room is refuted by itself.
        self.assertIs(told([least(-1, 0, 0, 1), least(0, 0, 0, -1)],
                           ("split", (0, (1, 0), (0,)), ("sum", ((0, 1), (1, 1))), ("sum", ((2, 1),)))), True)
        self.assertIs(told([], ("split", (-1, (0, 0), (0,)), ("sum", ((0, 1),)), ("sum", ((0, 1),)))), False)
        self.assertIs(told([WRONG], ("split", NOUGHT, LEAF, LEAF)), True)

    def test_not_is_below_by_one(self):
        # NOT of h - 3 is 2 - h: with h - 3 below it that comes to -1, with h - 2 to 0.
        for number, right in ((-2, False), (-3, True), (-4, True)):
            facts = [WRONG, least(number, 1)]
            self.assertIs(told(facts, ("split", (-3, (1, 0), (0,)), LEAF, ("sum", ((1, 1), (2, 1))))), right)

    def test_both_are_least_facts(self):
        below = ("sum", ((1, -1),))
        self.assertIs(told([WRONG], ("split", (1, (0, 0), (0,)), below, LEAF)), False)
        self.assertIs(told([WRONG], ("split", (-2, (0, 0), (0,)), LEAF, below)), False)
        for facts in ([WRONG, same(0)], [WRONG, least(0)]):
            self.assertIs(told(facts, ("split", NOUGHT, ("rest", 2, ((2, 1),)), LEAF)), False)

    def test_with_one_thing_amiss(self):
        right = ("split", self.form, self.one, self.other)
        for thing in (list(right), right[:3], right + ((),), ("split", self.form, self.other, self.one),
                      ("split", self.form, self.one, self.one), ("split", self.form, self.other, self.other),
                      ("split", self.one, self.form, self.other), ("Split",) + right[1:], ("know",) + right[1:]):
            self.assertIs(told(self.facts, thing), False, thing)
        for place in (2, 3):
            for thing in (None, (), [], list(self.one), ("sum", ()), ("sum", ((0, 1),)), 1, "sum"):
                self.assertIs(told(self.facts, changed_at(right, place, thing)), False)

    def test_forms(self):
        for form, right in forms_at_the_edge():
            self.assertIs(told([WRONG], ("split", form, LEAF, LEAF)), right, form)


def forms_at_the_edge():
    """Forms of two rooms and one sort, and what is none, with whether they are some."""
    pairs = [((number, (0, 0), (0,)), abs(number) <= BOUND) for number in (-BOUND - 1, -BOUND, BOUND, BOUND + 1)]
    pairs += [((0, (0, number), (0,)), abs(number) <= BOUND) for number in (-BOUND - 1, -BOUND, BOUND, BOUND + 1)]
    pairs += [((0, (0, 0), (number,)), abs(number) <= BOUND) for number in (-BOUND - 1, -BOUND, BOUND, BOUND + 1)]
    wrong = [None, (), 0, "0", [0, (0, 0), (0,)], (0, [0, 0], (0,)), (0, (0, 0), [0]), (True, (0, 0), (0,)),
             (0, (False, 0), (0,)), (0, (0, 0), (None,)), (0, (0,), (0,)), (0, (0, 0), ()), (0, (0, 0)), ("least", NOUGHT)]
    return pairs + [(form, False) for form in wrong]


class Cases(unittest.TestCase):
    def test_right_ones(self):
        # m times the hands of a room, and one, are never just 0.
        for m in range(2, 10):
            facts = [same(1, m)]
            self.assertIs(told(facts, ("cases", (0, (1, 0), (0,)), m, (("rest", m, ((0, 1),)),) * m)), True)
        # Where a number leaves the one rest it leaves no other one.
        for k, wanted in itertools.product(range(3), repeat=2):
            facts = (rest(3, -wanted, 1), rest(3, -k, 1))
            self.assertIs(told(facts, ("rest", 3, ((0, 1), (1, -1)))), k != wanted)

    def test_each_case_is_the_form_less_k(self):
        # Facts say that h leaves 2 by 3, then cases of h: in the case 2 the other fact says that h does not.
        form = (0, (1, 0), (0,))
        facts = [rest(3, -2, 1), rest(3, -1, 1)]
        by_first = ("rest", 3, ((0, 1), (2, -1)))
        by_second = ("rest", 3, ((1, 1), (2, -1)))
        self.assertIs(told(facts, ("cases", form, 3, (by_first, by_first, by_second))), True)
        self.assertIs(told(facts, ("cases", form, 3, (by_second, by_first, by_second))), True)
        for many in ((by_first, by_first, by_first), (by_first, by_second, by_second), (by_second, by_first, by_first),
                     (by_first, by_first), (by_first, by_first, by_second, by_second), [by_first, by_first, by_second],
                     (), None, by_first, (by_first, None, by_second), (by_first, list(by_first), by_second)):
            self.assertIs(told(facts, ("cases", form, 3, many)), False)
        self.assertIs(told([rest(3, 2, 1), rest(3, 1, 1)], ("cases", form, 3, (by_first, by_first, by_second))), False)

    def test_the_bounds_of_m(self):
        for m in range(-2, 13):
            self.assertIs(told([WRONG], ("cases", NOUGHT, m, (LEAF,) * max(m, 0))), 2 <= m <= 9, m)
        for m in (True, None, "2", (2,), 10 ** 39):
            self.assertIs(told([WRONG], ("cases", NOUGHT, m, (LEAF, LEAF))), False)
            self.assertIs(told([WRONG], ("cases", NOUGHT, m, (LEAF,))), False)

    def test_each_case_has_to_be_refuted(self):
        for m in (2, 9):
            for place in range(m):
                for thing in (None, (), ("sum", ((1, 1),)), [LEAF]):
                    self.assertIs(told([WRONG], ("cases", NOUGHT, m, changed_at((LEAF,) * m, place, thing))), False)
            self.assertIs(told([WRONG], ("cases", NOUGHT, m, (LEAF,) * (m - 1))), False)
            self.assertIs(told([WRONG], ("cases", NOUGHT, m, (LEAF,) * (m + 1))), False)

    def test_forms_and_parts(self):
        for form, right in forms_at_the_edge():
            self.assertIs(told([WRONG], ("cases", form, 2, (LEAF, LEAF))), right)
        right = ("cases", NOUGHT, 2, (LEAF, LEAF))
        for thing in (list(right), right[:3], right + (LEAF,), ("cases", 2, NOUGHT, (LEAF, LEAF)), ("case",) + right[1:]):
            self.assertIs(told([WRONG], thing), False)


class Knows(unittest.TestCase):
    def test_right_ones(self):
        # From h - 3 at least 0, that h - 1 is so too; with it 0 - h can't be.
        facts = [least(-3, 1), least(0, -1)]
        show = (("sum", ((0, 1), (2, 1))),)
        more = ("sum", ((1, 1), (2, 1)))
        right = ("know", least(-1, 1), show, more)
        self.assertIs(told(facts, right), True)
        for thing in (list(right), right[:3], right + ((),), ("know", least(-1, 1), more, more),
                      ("know", least(-1, 1), show[0], more), ("know", least(-1, 1), list(show), more),
                      ("know", least(-1, 1), (), more), ("know", least(-1, 1), show * 2, more),
                      ("know", least(-4, 1), show, more), ("know", least(0, 1), show, more),
                      ("know", least(-1, 1), show, LEAF), ("know", least(-1, 1), show, None),
                      ("know", least(-1, 1), show, show), ("known",) + right[1:], ("know", show, least(-1, 1), more)):
            self.assertIs(told(facts, thing), False, thing)

    def test_what_is_known_stands_behind_the_facts_in_more_alone(self):
        fact = least(-1)
        self.assertIs(told([least(5)], ("know", fact, (("sum", ((1, 1),)),), ("sum", ((1, 1),)))), False)
        self.assertIs(told([least(5)], ("know", least(4), (("sum", ((0, 1), (1, 1))),), ("sum", ((1, 1),)))), False)
        self.assertIs(told([WRONG], ("know", least(4), (LEAF,), LEAF)), True)

    def test_facts(self):
        for form, right in forms_at_the_edge():
            self.assertIs(told([WRONG], ("know", ("least", form), (LEAF,), LEAF)), right)
            self.assertIs(told([WRONG], ("know", ("same", form), (LEAF, LEAF), LEAF)), right)
            self.assertIs(told([WRONG], ("know", ("rest", form, 3), (LEAF, LEAF), LEAF)), right)
        for m in range(-1, 102):
            show = (LEAF,) * max(m - 1, 0)
            self.assertIs(told([WRONG], ("know", ("rest", NOUGHT, m), show, LEAF)), 2 <= m <= 99, m)
        for fact in (None, (), "least", ["least", NOUGHT], ("least",), ("least", NOUGHT, 2), ("rest", NOUGHT)):
            self.assertIs(told([WRONG], ("know", fact, (LEAF,), LEAF)), False)

    def test_rest_facts_known(self):
        # h and g leave the same rest by 4 each, so what comes together leaves none by 2.
        facts = [rest(4, 0, 1, 1), rest(2, 1, 1, -1)]
        known = rest(2, 0, 1, 1)
        thing = ("know", known, (("rest", 2, ((0, 1), (2, 1))),), ("rest", 2, ((1, 1), (2, 1))))
        self.assertIs(told(facts, thing), True)
        self.assertFalse(may_hold(facts))


class Shows(unittest.TestCase):
    def test_least(self):
        # From h - 3: that h - 2 is at least 0, by 1 - h.
        facts = [least(-3, 1)]
        by_both = ("sum", ((0, 1), (1, 1)))
        for number, right in ((-4, False), (-3, True), (-2, True), (0, True)):
            self.assertIs(shown(facts, least(number, 1), (by_both,)), right)
        self.assertIs(shown([], least(0, 1), (("sum", ((0, 1),)),)), True)
        self.assertIs(shown([], least(-1, 1), (("sum", ((0, 1),)),)), False)
        for thing in ((), (by_both, by_both), [by_both], by_both, None, (None,), (list(by_both),)):
            self.assertIs(shown(facts, least(-2, 1), thing), False)

    def test_same(self):
        # From h - 3 and 3 - h: that h - 3 is just 0: above by h - 4, below by 2 - h.
        facts = [least(-3, 1), least(3, -1)]
        above = ("sum", ((1, 1), (2, 1)))
        below = ("sum", ((0, 1), (2, 1)))
        for number, right in ((-4, False), (-3, True), (-2, False)):
            self.assertIs(shown(facts, same(number, 1), (above, below)), right)
        for thing in ((below, above), (above,), (below,), (above, below, above), (above, above), (below, below),
                      [above, below], (), None, above, (above, None), (None, below)):
            self.assertIs(shown(facts, same(-3, 1), thing), False)

    def test_rest(self):
        # h leaves 1 by m, so h - 1 is divided by it: each h - 1 - k is not.
        for m in (2, 3, 9, 99):
            facts = [rest(m, -1, 1)]
            parts = (("rest", m, ((0, 1), (1, -1))),) * (m - 1)
            self.assertIs(shown(facts, rest(m, -1, 1), parts), True)
            self.assertIs(shown(facts, rest(m, -1 - m, 1), parts), True)
            self.assertIs(shown(facts, rest(m, 0, 1), parts), False)
            self.assertIs(shown(facts, rest(m, -2, 1), parts), False)
            for thing in (parts[1:], parts + parts[:1], list(parts), None, ()):
                self.assertIs(shown(facts, rest(m, -1, 1), thing), False)
            for place in range(m - 1):
                self.assertIs(shown(facts, rest(m, -1, 1), changed_at(parts, place, None)), False)

    def test_rest_in_order(self):
        # The k-th, from 1 on, is with the form less k behind the facts: each by another fact.
        facts = [rest(4, 0, 1), rest(2, 0, 1)]
        by_four = ("rest", 4, ((0, 1), (2, -1)))
        by_two = ("rest", 2, ((1, 1), (2, -1)))
        for parts in itertools.product((by_four, by_two), repeat=3):
            self.assertIs(shown(facts, rest(4, 0, 1), parts), parts[1] == by_four)
        three = ("rest", 3, ((0, 1), (1, -1)))
        for number in range(-4, 5):
            by_first = ("sum", ((0, 1),))
            self.assertIs(shown([rest(3, number, 1)], rest(3, 0, 1), (three, three)), number % 3 == 0)
            self.assertIs(shown([WRONG], rest(3, number, 1), (by_first, by_first)), True)
        # 1 and 2 are shown by unlike ones, which may not be exchanged.
        facts = [same(-2, 1), rest(2, 0, 1)]
        one = ("rest", 2, ((1, 1), (2, -1)))
        two = ("rest", 4, ((0, 1), (2, -1)))
        self.assertIs(shown(facts, rest(4, -2, 1), (one, two, one)), True)
        self.assertIs(shown(facts, rest(4, -2, 1), (one, one, two)), False)
        self.assertIs(shown(facts, rest(4, -2, 1), (two, one, one)), False)

    def test_the_kth_is_less_k(self):
        # Of three rests h leaves none but 0: not 1, as it leaves 2, and not 2, as it leaves 1.
        facts = [rest(3, -2, 1), rest(3, -1, 1)]
        first, second = ("rest", 3, ((0, 1), (2, -1))), ("rest", 3, ((1, 1), (2, -1)))
        self.assertIs(shown(facts, rest(3, 0, 1), (first, second)), True)
        self.assertIs(shown(facts, rest(3, 0, 1), (second, first)), False)

    def test_what_stands_behind_is_of_its_kind(self):
        # 1 or more is no 0: a least fact is not taken below 1 times.
        below = ("sum", ((1, -1),))
        self.assertIs(shown([WRONG], least(-2), (below,)), False)
        self.assertIs(shown([WRONG], same(2), (below, LEAF)), False)
        self.assertIs(shown([WRONG], same(-2), (LEAF, below)), False)
        # What is divided by 4 may be so by 2, never by 3 or 8, and is in no sum.
        for m, right in ((2, True), (4, True), (3, False), (8, False), (5, False)):
            by = ("rest", m, ((1, 1),))
            self.assertIs(shown([WRONG], rest(4, 0), (by, LEAF, LEAF)), right)
            self.assertIs(shown([WRONG], rest(4, 0), (LEAF, LEAF, by)), right)
        self.assertIs(shown([WRONG], rest(4, 0), (("sum", ((1, 1),)), LEAF, LEAF)), False)

    def test_any_thing(self):
        for thing in strange_things():
            for fact in (least(0), same(0), rest(2, 0), rest(99, 0)):
                self.assertIs(shown([WRONG], fact, thing), False)
                self.assertIs(shown([WRONG], fact, (thing,)), False)
                self.assertIs(shown([WRONG], fact, (LEAF, thing)), False)


def within(kind, inner):
    """A refutation with an inner one, at each place of each kind where one may stand."""
    return {
        "split one": ("split", NOUGHT, inner, LEAF),
        "split other": ("split", NOUGHT, LEAF, inner),
        "cases first": ("cases", NOUGHT, 2, (inner, LEAF)),
        "cases last": ("cases", NOUGHT, 9, (LEAF,) * 8 + (inner,)),
        "know shown": ("know", least(3, 1), (inner,), LEAF),
        "know shown same": ("know", same(3, 1), (LEAF, inner), LEAF),
        "know shown rest": ("know", rest(3, 1), (inner, LEAF), LEAF),
        "know more": ("know", least(3, 1), (LEAF,), inner),
    }[kind]


KINDS = ("split one", "split other", "cases first", "cases last", "know shown", "know shown same", "know shown rest",
         "know more")


class Depth(unittest.TestCase):
    def stack(self, kinds, leaf=LEAF):
        thing = leaf
        for kind in reversed(kinds):
            thing = within(kind, thing)
        return thing

    def test_thirty_and_thirty_one(self):
        for kind in KINDS:
            for leaf in (LEAF, ("rest", 2, ((1, 1),))):
                facts = [WRONG, same(1)]
                for many in (1, 2, 28, 29):
                    self.assertIs(told(facts, self.stack([kind] * many, leaf)), True, (kind, many))
                for many in (30, 31, 60, 190):
                    self.assertIs(told(facts, self.stack([kind] * many, leaf)), False, (kind, many))

    def test_of_what_is_shown(self):
        for kind in KINDS:
            for fact, parts in ((least(0), 1), (same(0), 2), (rest(3, 0), 2)):
                for place in range(parts):
                    for many, right in ((0, True), (29, True), (30, False)):
                        thing = changed_at((LEAF,) * parts, place, self.stack([kind] * many))
                        self.assertIs(shown([WRONG], fact, thing), right)

    def test_all_kinds_within_one_another(self):
        dice = random.Random(30)
        for again in range(40):
            kinds = [dice.choice(KINDS) for place in range(30)]
            self.assertIs(told([WRONG], self.stack(kinds[:29])), True)
            self.assertIs(told([WRONG], self.stack(kinds)), False)


class AnyThing(unittest.TestCase):
    def test_strange_things(self):
        for thing in strange_things():
            self.assertIs(told([WRONG], thing), False)
            for kind in KINDS:
                self.assertIs(told([WRONG], within(kind, thing)), False)
            for right in (LEAF, ("rest", 2, ((0, 1),)), within("split one", LEAF), within("cases first", LEAF),
                          within("know more", LEAF)):
                for place in range(len(right)):
                    bent = changed_at(right, place, thing)
                    self.assertIn(told([WRONG], bent), (True, False))
                    if place == 0 or right == LEAF:
                        self.assertIs(told([WRONG], bent), False)

    def test_far_within_one_another(self):
        for kind in (tuple, list):
            for inner in (0, "sum", LEAF, ()):
                deep = nested(kind, 190, inner)
                self.assertIs(told([WRONG], deep), False)
                for name in KINDS:
                    self.assertIs(told([WRONG], within(name, deep)), False)
                for right in (("sum", deep), ("sum", (deep,)), ("sum", ((deep, 1),)), ("sum", ((0, deep),)),
                              ("rest", deep, ((0, 1),)), ("rest", 2, deep), ("split", deep, LEAF, LEAF),
                              ("cases", NOUGHT, deep, (LEAF, LEAF)), ("cases", NOUGHT, 2, deep),
                              ("know", deep, (LEAF,), LEAF), ("know", WRONG, deep, LEAF), (deep, deep, deep, deep)):
                    self.assertIs(told([WRONG], right), False)
        self.assertIs(told([WRONG], ("sum", ((0, 1),) * 60000)), False)

    def test_what_is_refuted_never_holds(self):
        dice = random.Random(26)
        right = 0
        for again in range(30000):
            facts = [self.fact(dice) for place in range(dice.randrange(1, 4))]
            thing = self.refutation(dice, len(facts), 0)
            if told(facts, thing):
                right += 1
                self.assertFalse(may_hold(facts), (facts, thing))
        self.assertGreater(right, 300)

    def fact(self, dice):
        form = (dice.randrange(-3, 3), (dice.randrange(-2, 3), dice.randrange(-2, 2)), (dice.randrange(-1, 2),))
        word = dice.choice(("least", "same", "rest"))
        return (word, form) + ((dice.choice((2, 3, 4)),) if word == "rest" else ())

    def refutation(self, dice, many, depth):
        word = dice.choice(("sum", "rest", "sum", "rest", "split", "cases", "know") if depth < 2 else ("sum", "rest"))
        times = tuple((i, dice.choice((-1, 1, 1, 2))) for i in range(many) if dice.random() < 0.6)
        if word == "sum":
            return ("sum", times)
        if word == "rest":
            return ("rest", dice.choice((2, 3, 4)), times)
        inner = [self.refutation(dice, many + 1, depth + 1) for place in range(4)]
        fact = self.fact(dice)
        if word == "split":
            return ("split", fact[1], inner[0], inner[1])
        if word == "cases":
            return ("cases", fact[1], 2, (inner[0], inner[1]))
        parts = {"least": 1, "same": 2, "rest": fact[-1] - 1 if fact[0] == "rest" else 0}[fact[0]]
        return ("know", fact, tuple(inner[:parts]), inner[3])


class Sizes(unittest.TestCase):
    def test_other_rooms_and_sorts(self):
        for rooms, sorts in ((1, 1), (3, 2), (1, 3), (2, 4), (12, 4), (40, 4)):
            nought = (0, (0,) * rooms, (0,) * sorts)
            last = ("least", (-1, (0,) * (rooms - 1) + (1,), (0,) * (sorts - 1) + (-1,)))
            against = not_of(last)
            self.assertIs(refutes(rooms, sorts, (last, against), ("sum", ((0, 1), (1, 1)))), True)
            self.assertIs(refutes(rooms, sorts, (last, against), ("split", nought, ("sum", ((0, 1), (1, 1))),
                                                                 ("sum", ((2, 1),)))), True)
            self.assertIs(refutes(rooms, sorts, (last, against), ("split", NOUGHT if rooms != 2 else None,
                                                                 ("sum", ((0, 1), (1, 1))), ("sum", ((2, 1),)))), False)
            self.assertIs(shows(rooms, sorts, (last,), last, (("sum", ((0, 1), (1, 1))),)), True)

    def test_nothing_is_changed(self):
        facts = (WRONG, same(1))
        thing = ["sum", [[0, 1]]]
        before = repr((facts, thing))
        refutes(2, 1, facts, thing)
        refutes(2, 1, facts, ("know", WRONG, [LEAF], LEAF))
        shows(2, 1, facts, WRONG, thing)
        self.assertEqual(repr((facts, thing)), before)


if __name__ == "__main__":
    unittest.main()
