"""Facts, whether they hold, and NOT of a least fact [24, 25]."""

import itertools
import unittest

from passersby.facts import fact_holds, is_fact, not_of
from tests.samples import nested, strange_things

BOUND = 10 ** 15
FORM = (3, (1, -2), (7,))


class IsFact(unittest.TestCase):
    def told(self, thing, rooms=2, sorts=1):
        answer = is_fact(rooms, sorts, thing)
        self.assertIs(type(answer), bool)
        return answer

    def test_facts(self):
        for fact in (("least", FORM), ("same", FORM), ("rest", FORM, 2), ("rest", FORM, 99), ("rest", FORM, 50),
                     ("least", (BOUND, (BOUND, -BOUND), (BOUND,))), ("same", (-BOUND, (0, 0), (0,)))):
            self.assertIs(self.told(fact), True)

    def test_the_bounds_of_m(self):
        for m, right in ((0, False), (1, False), (2, True), (3, True), (98, True), (99, True), (100, False), (-2, False),
                         (10 ** 39, False), (True, False), (None, False), ("2", False), ((2,), False), ([2], False)):
            self.assertIs(self.told(("rest", FORM, m)), right, m)

    def test_the_bounds_of_its_form(self):
        for word in ("least", "same", "rest"):
            more = (2,) if word == "rest" else ()
            for number, right in ((BOUND, True), (BOUND + 1, False), (-BOUND, True), (-BOUND - 1, False), (True, False)):
                for form in ((number,) + FORM[1:], (3, (1, number), (7,)), (3, (number, 1), (7,)), (3, (1, -2), (number,))):
                    self.assertIs(self.told((word, form) + more), right)
            for form in ((3, (1,), (7,)), (3, (1, 2, 3), (7,)), (3, (1, 2), ()), (3, (1, 2), (7, 8)), list(FORM), None,
                         (3, [1, 2], (7,)), (3, (1, 2), [7]), FORM[:2], FORM + (0,)):
                self.assertIs(self.told((word, form) + more), False)
        for rooms, sorts in itertools.product(range(1, 4), range(1, 4)):
            self.assertIs(self.told(("least", FORM), rooms, sorts), (rooms, sorts) == (2, 1))

    def test_parts_and_words(self):
        for thing in (("least",), ("same",), ("rest",), ("least", FORM, 2), ("same", FORM, 2), ("rest", FORM),
                      ("rest", FORM, 2, 2), (FORM,), (FORM, "least"), ("rest", 2, FORM), ["least", FORM],
                      ["rest", FORM, 2]):
            self.assertIs(self.told(thing), False)
        for word in ("Least", "", "leas", "least ", "more", "sum", "not", None, 0, True, ("least",), ["least"], ()):
            self.assertIs(self.told((word, FORM)), False)
            self.assertIs(self.told((word, FORM, 2)), False)

    def test_any_thing(self):
        for thing in strange_things():
            self.assertIs(self.told(thing), False)
            self.assertIs(self.told(("least", thing)), False)
            self.assertIs(self.told((thing, FORM)), type(thing) is str and thing == "least")
        for kind in (tuple, list):
            deep = nested(kind, 198, 0)
            for thing in (deep, ("least", deep), (deep, FORM), ("rest", FORM, deep), ("same", (3, (deep, 1), (7,)))):
                self.assertIs(self.told(thing), False)


class Holds(unittest.TestCase):
    def test_by_value(self):
        for value in list(range(-20, 21)) + [BOUND, -BOUND, 10 ** 39, -(10 ** 39), 99 * 10 ** 15]:
            form = (value - 5, (2, 0), (3,))
            crowd, counts = (1, 4), (1,)
            self.assertIs(fact_holds(("least", form), crowd, counts), value >= 0)
            self.assertIs(fact_holds(("same", form), crowd, counts), value == 0)
            for m in (2, 3, 7, 98, 99):
                self.assertIs(fact_holds(("rest", form, m), crowd, counts), value - value // m * m == 0)

    def test_by_rooms_and_sorts(self):
        for crowd in itertools.product(range(4), repeat=2):
            for many in range(1, 4):
                value = 3 + crowd[0] - 2 * crowd[1] - many
                form = (3, (1, -2), (-1,))
                self.assertIs(fact_holds(("least", form), crowd, (many,)), value >= 0)
                self.assertIs(fact_holds(("same", form), crowd, (many,)), value == 0)
                self.assertIs(fact_holds(("rest", form, 3), crowd, (many,)), value in (-9, -6, -3, 0, 3, 6))


class Not(unittest.TestCase):
    def test_not_of(self):
        self.assertEqual(not_of(("least", FORM)), ("least", (-4, (-1, 2), (-7,))))
        self.assertEqual(not_of(("least", (-1, (0, 0), (0,)))), ("least", (0, (0, 0), (0,))))
        self.assertEqual(not_of(("least", (BOUND, (BOUND, 0), (-BOUND,)))),
                         ("least", (-BOUND - 1, (-BOUND, 0), (BOUND,))))
        self.assertEqual(not_of(("least", (0, (5,), (1, 2, 3)))), ("least", (-1, (-5,), (-1, -2, -3))))
        self.assertEqual(not_of(not_of(("least", FORM))), ("least", FORM))

    def test_just_one_of_both_holds(self):
        for fact in (("least", FORM), ("least", (0, (1, -1), (0,))), ("least", (-4, (0, 0), (1,)))):
            for crowd in itertools.product(range(5), repeat=2):
                for many in range(1, 7):
                    self.assertIs(fact_holds(not_of(fact), crowd, (many,)), not fact_holds(fact, crowd, (many,)))

    def test_nothing_is_changed(self):
        fact = ("least", FORM)
        before = repr(fact)
        not_of(fact)
        self.assertEqual(repr(fact), before)
        self.assertIs(type(not_of(fact)), tuple)


if __name__ == "__main__":
    unittest.main()
