"""Texts read, and refused [11]."""

import unittest

from passersby.errors import NoText
from passersby.questions import is_question
from passersby.reading import read_counts, read_question, read_rule
from passersby.rules import is_rule
from passersby.texts import shown_question, shown_rule
from tests.samples import MORE, ROOMY, deep_questions, plain_questions

NINE = "123456789"


class Reading(unittest.TestCase):
    def refused(self, row, word, asked, *things):
        with self.assertRaises(NoText, msg=things) as taken:
            asked(*things)
        self.assertEqual((taken.exception.row, taken.exception.word), (row, word), things)


class Counts(Reading):
    def test_read(self):
        self.assertEqual(read_counts(1, "1"), (1,))
        self.assertEqual(read_counts(3, "0,10,0"), (0, 10, 0))
        self.assertEqual(read_counts(2, NINE + ",999999999"), (123456789, 999999999))
        self.assertIs(type(read_counts(2, "1,2")), tuple)
        self.assertEqual(read_counts(40, ",".join(["1"] * 40)), (1,) * 40)

    def test_refused(self):
        for text in ("", " ", ",", "1", "1,2,3", "1,2,", ",1,2", "1,,2", "0,0", "1, 2", " 1,2", "1,2 ", "1 2", "1;2",
                     "01,2", "1,00", "1,-1", "+1,2", "1,1234567890", "1000000000,1", "a,b", "1,b", "1.0,2", "1,2\n",
                     "1_0,2", "1,1e3", "-", "-,1", "1,2,3,4", "1\n,2", "0x1,1"):
            self.refused(0, 0, read_counts, 2, text)
        for text in ("", "0", "00", "-1", "1,1", "1234567890", "01", " 1", "0,1"):
            self.refused(0, 0, read_counts, 1, text)


class Questions(Reading):
    def no(self, word, text, sorts=3):
        self.refused(0, word, read_question, sorts, text)

    def test_read(self):
        self.assertEqual(read_question(1, "least 0 9"), ("least", (0,), 9))
        self.assertEqual(read_question(4, "more 0,3 1,2"), ("more", (0, 3), (1, 2)))
        self.assertEqual(read_question(1, "more - -"), ("more", (), ()))
        self.assertEqual(read_question(2, "rest 0,1 2 0"), ("rest", (0, 1), 2, 0))
        self.assertEqual(read_question(2, "either not least 1 1 both more 0 - least 0 2"),
                         ("either", ("not", ("least", (1,), 1)), ("both", ("more", (0,), ()), ("least", (0,), 2))))

    def test_other_first_words(self):
        for text in ("", " ", "x", "Least 0 1", "leas 0 1", "least", "0 1", "rooms 4", "ask least 0 1", "least\n0 1"):
            self.no(1 if text == "least" else 0, text)
        self.no(1, "not")
        self.no(1, "not x")
        self.no(1, "both 0 1")
        self.no(4, "both least 0 1 x")
        self.no(4, "either least 0 1 0 1")

    def test_numbers(self):
        for word in ("01", "1234567890", "+1", "-1", "x", "", "1,2", "1.0", "-", "00", "1_0", "1\n", "0x1", "1000000001"):
            self.no(2, "least 0 " + word)
            self.no(2, "rest 0 " + word + " 0")
            self.no(3, "rest 0 3 " + word)

    def test_sorts(self):
        for word in ("x", "", ",", "0,", ",0", "0,,1", "00", "0,01", "-1", "+0", "1,0", "0,0", "0,2,1", "3", "0,3", "0;1",
                     "1234567890", "--", "-,0", "0,-", "123456789", "0\n"):
            self.no(1, "least " + word + " 1")
            self.no(1, "rest " + word + " 2 0")
            self.no(1, "more " + word + " -")
            self.no(2, "more - " + word)
            self.no(5, "both least 0 1 least " + word + " 1")
        self.no(1, "least - 1")
        self.no(1, "rest - 2 0")
        for sorts in (1, 2, 3, 4):
            highest = str(sorts - 1)
            self.assertEqual(read_question(sorts, "least " + highest + " 1")[1], (sorts - 1,))
            self.no(1, "least " + str(sorts) + " 1", sorts)

    def test_sorts_that_stand_in_both(self):
        self.no(2, "more 0 0")
        self.no(2, "more 0,1 1,2")
        self.no(2, "more 2 0,2")
        self.assertEqual(read_question(3, "more 1 0,2"), ("more", (1,), (0, 2)))

    def test_bounds(self):
        for n in range(12):
            text = "least 0 " + str(n)
            if 1 <= n <= 9:
                self.assertEqual(read_question(1, text), ("least", (0,), n))
            else:
                self.no(2, text)
        for m in range(12):
            for r in range(12):
                text = "rest 0 " + str(m) + " " + str(r)
                if not 2 <= m <= 9:
                    self.no(2, text)
                elif r >= m:
                    self.no(3, text)
                else:
                    self.assertEqual(read_question(1, text), ("rest", (0,), m, r))

    def test_the_eighth_question(self):
        seven = "both both least 0 1 least 0 1 either least 0 1 least 0 1"
        self.assertTrue(is_question(1, read_question(1, seven)))
        self.no(13, "both both least 0 1 least 0 1 both least 0 1 not least 0 1")
        # The second part of the first one would be the eighth, whatever stands there.
        for rest in (" least 0 1", " x", "", " "):
            self.no(13, "both both not least 0 1 both least 0 1 least 0 1" + rest)
        six = "both not least 0 1 either least 0 1 least 0 1"
        self.assertTrue(is_question(1, read_question(1, "not " + six)))
        self.no(11, "both not not least 0 1 either least 0 1 both least 0 1 least 0 1")

    def test_one_within_four_others(self):
        self.no(4, "not not not not least 0 1")
        self.no(4, "not not not not")
        self.no(4, "not not not not x")
        self.no(4, "both not not not least 0 1 least 0 1")
        self.no(7, "either least 0 1 not not not least 0 1")
        self.assertEqual(read_question(1, "not not not least 0 1"), ("not", ("not", ("not", ("least", (0,), 1)))))

    def test_words_too_many(self):
        self.no(3, "least 0 1 2")
        self.no(3, "more 0 1 2")
        self.no(4, "rest 0 2 1 least 0 1")
        self.no(4, "not least 0 1 x y")
        self.no(7, "both least 0 1 least 0 1 least 0 1")

    def test_blanks(self):
        self.no(0, " least 0 1")
        self.no(1, "least  0 1")
        self.no(2, "least 0  1")
        self.no(3, "least 0 1 ")
        self.no(3, "least 0 1  ")
        self.no(1, "not  least 0 1")
        self.no(4, "both least 0 1  least 0 1")

    def test_each_word_of_each_question(self):
        for question in plain_questions() + deep_questions():
            words = shown_question(question).split(" ")
            for place in range(len(words)):
                if place > 0:
                    self.no(place, " ".join(words[:place]))
                self.no(place, " ".join(words[:place] + ["x"] + words[place + 1:]))
                self.no(place, " ".join(words[:place] + [""] + words[place + 1:]))
                self.no(place, " ".join(words[:place] + [words[place] + "x"]))
            self.no(len(words), " ".join(words + ["least"]))
            self.no(len(words), " ".join(words + [""]))


class Rules(Reading):
    def no(self, row, word, *rows):
        self.refused(row, word, read_rule, list(rows))

    def meet(self, word, *rows):
        """The last of these meetings, of four rooms, is refused."""
        self.no(2 + len(rows), word, "rooms 4", "starts 0", "says yes no no yes", *rows)

    def let_by(self, *rows):
        rule = read_rule(["rooms 4", "starts 0", "says yes no no yes"] + list(rows))
        self.assertTrue(is_rule(rule))
        return rule[2]

    def test_read(self):
        self.assertEqual(read_rule(shown_rule(ROOMY)), ROOMY)
        self.assertEqual(read_rule(["rooms 1", "starts 0 0 0 0", "says no"]), (1, (0, 0, 0, 0), (), (False,)))

    def test_rows_that_lack(self):
        self.no(0, 0)
        self.no(1, 0, "rooms 1")
        self.no(2, 0, "rooms 1", "starts 0")
        self.no(0, 1, "rooms")
        self.no(0, 1, "rooms 0")
        self.no(1, 1, "rooms 1", "starts 1")
        self.no(1, 1, "rooms 1", "starts")

    def test_rooms(self):
        for word in ("0", "41", "42", "999999999", "1000000000", "-1", "+1", "01", "040", "", "x", "4,4", "1.0"):
            self.no(0, 1, "rooms " + word, "starts 0", "says yes")
        for rooms in (1, 2, 39, 40):
            says = " ".join(["says"] + ["no"] * rooms)
            self.assertEqual(read_rule(["rooms " + str(rooms), "starts 0", says]), (rooms, (0,), (), (False,) * rooms))
        for row in ("", "room 1", "Rooms 1", " rooms 1", "starts 0", "says yes", "meet 0 0 1 1"):
            self.no(0, 0, row, "starts 0", "says yes")
        self.no(0, 2, "rooms 1 1", "starts 0", "says yes")
        self.no(0, 2, "rooms 1 ", "starts 0", "says yes")
        self.no(0, 1, "rooms  1", "starts 0", "says yes")

    def test_starts(self):
        for word in ("2", "3", "-1", "+0", "00", "x", "", "0,1", "999999999", "1234567890"):
            self.no(1, 1, "rooms 2", "starts " + word, "says no no")
            self.no(1, 4, "rooms 2", "starts 0 1 1 " + word, "says no no")
        self.assertEqual(read_rule(["rooms 2", "starts 0 1 1 0", "says no no"])[1], (0, 1, 1, 0))
        self.no(1, 5, "rooms 2", "starts 0 1 1 0 0", "says no no")
        self.no(1, 5, "rooms 2", "starts 0 1 1 0 x x", "says no no")
        self.no(1, 5, "rooms 2", "starts 0 1 1 0 ", "says no no")
        self.no(1, 2, "rooms 2", "starts 0 ", "says no no")
        self.no(1, 1, "rooms 2", "starts", "says no no")
        for row in ("", "start 0", "says no no", "rooms 2", " starts 0"):
            self.no(1, 0, "rooms 2", row, "says no no")

    def test_says(self):
        rows = ("rooms 3", "starts 0")
        self.no(2, 1, *rows, "says")
        self.no(2, 3, *rows, "says yes no")
        self.no(2, 4, *rows, "says yes no yes yes")
        self.no(2, 4, *rows, "says yes no yes x")
        self.no(2, 4, *rows, "says yes no yes ")
        for word in ("", "Yes", "y", "True", "1", "both", "yes,no"):
            self.no(2, 2, *rows, "says yes " + word + " no")
        for row in ("", "say yes no yes", "meet 0 1 2 2", "starts 0", " says yes no yes"):
            self.no(2, 0, *rows, row)

    def test_meetings_first_words(self):
        for row in ("", "met 0 1 2 2", "meets 0 1 2 2", "0 1 2 2", "says yes", "rooms 4", " meet 0 1 2 2"):
            self.meet(0, row)
            self.meet(0, "meet 0 1 2 2", row)

    def test_rooms_of_meetings(self):
        words = ["meet", "1", "2", "3", "3"]
        for place in (1, 2, 3, 4):
            for word in ("4", "5", "-1", "+1", "01", "x", "", "1,2", "999999999", "1234567890"):
                self.meet(place, " ".join(words[:place] + [word] + words[place + 1:]))
        self.assertEqual(self.let_by("meet 3 3 0 0"), ((3, 3, 0, 0),))
        self.assertEqual(self.let_by("meet 0 0 3 3"), ((0, 0, 3, 3),))

    def test_a(self):
        self.meet(1, "meet 1 1 2 2", "meet 0 1 2 2")
        self.meet(1, "meet 3 3 2 2", "meet 2 3 1 1")
        self.meet(1, "meet 0 1 2 2", "meet 1 1 2 2", "meet 0 2 3 3")
        self.let_by("meet 1 1 2 2", "meet 1 2 3 3")
        self.let_by("meet 0 3 2 2", "meet 1 1 2 2")

    def test_b(self):
        self.meet(2, "meet 1 0 2 2")
        self.meet(2, "meet 3 2 0 0")
        self.meet(2, "meet 0 1 2 2", "meet 1 0 3 3")
        self.meet(2, "meet 0 1 2 2", "meet 0 1 3 3")
        self.meet(2, "meet 0 1 2 2", "meet 0 0 3 3")
        self.meet(2, "meet 0 3 2 2", "meet 0 3 2 2")
        self.meet(2, "meet 1 2 3 3", "meet 1 1 3 3")
        self.let_by("meet 0 1 2 2", "meet 0 2 3 3", "meet 1 1 0 0", "meet 1 3 0 0")
        self.let_by("meet 0 3 2 2", "meet 1 1 2 2", "meet 2 2 0 0", "meet 3 3 0 0")

    def test_d(self):
        for a in range(4):
            for b in range(a, 4):
                for c in range(4):
                    for d in range(4):
                        row = "meet %d %d %d %d" % (a, b, c, d)
                        if sorted((a, b)) == sorted((c, d)):
                            self.meet(4, row)
                        else:
                            self.assertEqual(self.let_by(row), ((a, b, c, d),))
        self.no(3, 4, "rooms 1", "starts 0", "says yes", "meet 0 0 0 0")

    def test_words_too_many_and_too_few(self):
        self.meet(1, "meet")
        self.meet(2, "meet 0")
        self.meet(3, "meet 0 1")
        self.meet(4, "meet 0 1 2")
        self.meet(5, "meet 0 1 2 2 2")
        self.meet(5, "meet 0 1 2 2 ")
        self.meet(3, "meet 0 1  2 2")
        self.meet(1, "meet 0 1 2 2", "meet")

    def test_the_first_row_goes(self):
        self.no(0, 1, "rooms 0", "x", "x")
        self.no(1, 0, "rooms 1", "x", "x", "x")
        self.no(3, 0, "rooms 2", "starts 0", "says no no", "x", "meet 0 0 1 1", "x")
        self.no(4, 4, "rooms 2", "starts 0", "says no no", "meet 0 0 1 1", "meet 0 1 1 0", "x")

    def test_each_word_of_each_row(self):
        for rule in (MORE, ROOMY):
            rows = shown_rule(rule)
            for number, row in enumerate(rows):
                words = row.split(" ")
                for place in range(len(words)):
                    for word in ("x", "", "40"):
                        broken = " ".join(words[:place] + [word] + words[place + 1:])
                        if (number, place, word) != (0, 1, "40"):
                            self.no(number, place, *rows[:number], broken, *rows[number + 1:])
                # Behind the second row's words more starts might stand.
                if number != 1:
                    self.no(number, len(words), *rows[:number], row + " x")

    def test_nothing_handed_in_is_changed(self):
        rows = shown_rule(MORE)
        before = list(rows)
        rule = read_rule(rows)
        self.assertEqual(rows, before)
        rows[0] = "rooms 9"
        rows.clear()
        self.assertEqual(rule, MORE)


if __name__ == "__main__":
    unittest.main()
