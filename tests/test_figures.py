"""Names and numbers: points 3 and 44."""

import unittest

from neverrounds.errors import BadNumber, BadText
from neverrounds.figures import is_name, is_number, read_number, read_span, write_number, write_span

SIXTY = "123456789" + "0" * 50 + "7"


class NameTest(unittest.TestCase):
    def test_names(self):
        for text in ("a", "z", "hall", "east", "a1", "z0", "room7b9", "a23456789012", "abcdefghijkl", "qrstuvwxyz"):
            with self.subTest(text):
                self.assertIs(is_name(text), True)

    def test_every_letter_and_digit(self):
        for sign in "abcdefghijklmnopqrstuvwxyz":
            self.assertIs(is_name(sign), True)
            self.assertIs(is_name("a" + sign), True)
        for sign in "0123456789":
            self.assertIs(is_name(sign), False)
            self.assertIs(is_name("a" + sign), True)

    def test_lengths(self):
        self.assertIs(is_name(""), False)
        self.assertIs(is_name("a" * 12), True)
        self.assertIs(is_name("a" * 13), False)
        self.assertIs(is_name("a" * 11 + "0"), True)
        self.assertIs(is_name("a" * 12 + "0"), False)

    def test_wrong_texts(self):
        wrong = ("1a", "0", "A", "East", "eAst", "easT", " east", "east ", "ea st", " ", "a-b", "-a", "a_b", "_", "a.b",
                 "a,", "a\n", "\na", "a\t", "{a}", "`", "a`", "a{", "a/", "a:", "@", "[")
        for text in wrong:
            with self.subTest(text):
                self.assertIs(is_name(text), False)

    def test_letters_and_digits_of_other_scripts(self):
        for text in ("\u00e9", "a\u00e9", "\u00df", "\u0430", "a\u0661", "a\u00b2", "\uff41"):
            with self.subTest(ascii(text)):
                self.assertIs(is_name(text), False)


class NumberTest(unittest.TestCase):
    def test_numbers_are_written_in_digits(self):
        pairs = [(0, "0"), (7, "7"), (-7, "-7"), (10, "10"), (-10, "-10"), (1000000, "1000000")]
        for number, text in pairs + [(int(SIXTY), SIXTY), (-int(SIXTY), "-" + SIXTY)]:
            with self.subTest(text):
                self.assertEqual(write_number(number), text)
                self.assertEqual(read_number(text), number)
                self.assertIs(type(read_number(text)), int)

    def test_writing_and_reading_undo_each_other(self):
        for number in list(range(-1100, 1101)) + [sign * 10 ** size + by for sign in (-1, 1) for size in range(3, 60)
                                                  for by in (-1, 0, 1)]:
            text = write_number(number)
            self.assertEqual(read_number(text), number)
            self.assertEqual(write_number(read_number(text)), text)

    def test_sixty_digits_and_no_more(self):
        for text in ("9" * 60, "-" + "9" * 60, "1" + "0" * 59):
            with self.subTest(text):
                self.assertEqual(write_number(read_number(text)), text)
        for text in ("1" * 61, "-" + "1" * 61, "1" + "0" * 60, "9" * 200, "-" + "9" * 200):
            self.refuse(text)

    def test_texts_that_are_no_numbers(self):
        for text in ("-0", "-", "+1", "01", "-01", "00", "-00", "+0", " 1", "1 ", "-1 ", "- 1", "", " ", "--1", "1-",
                     "1-1", "1.0", "1.", ".1", "1e3", "0x1", "0b1", "1_000", "_1", "1,000", "a", "1a", "a1", "1 2",
                     "1..2", "1\n", "\n1", "\t1", "none", "0" * 60, "/", ":", "1/", "1:"):
            self.refuse(text)

    def test_digits_of_other_scripts(self):
        for text in ("\u0661", "1\u0662", "-\u0663", "\u00b2", "1\u00b3", "\uff11", "\u22121"):
            self.refuse(text)

    def refuse(self, text):
        with self.subTest(ascii(text)):
            with self.assertRaises(BadNumber) as caught:
                read_number(text)
            self.assertEqual(caught.exception.text, text)

    def test_it_tells_whether_a_text_is_a_number(self):
        for text, told in (("0", True), ("-7", True), (SIXTY, True), ("-" + SIXTY, True), ("", False), ("-", False),
                           ("-0", False), ("01", False), ("7a", False), ("1" + SIXTY, False)):
            self.assertIs(is_number(text), told)


class SpanTest(unittest.TestCase):
    def test_spans_are_written(self):
        for (low, high), text in (((1, 4), "1..4"), ((-4, -1), "-4..-1"), ((-3, 0), "-3..0"), ((7, 7), "7"),
                                  ((-7, -7), "-7"), ((0, 0), "0"), ((0, int(SIXTY)), "0.." + SIXTY)):
            self.assertEqual(write_span(low, high), text)
            self.assertEqual(read_span(text, 1), (low, high))

    def test_spans_are_read_as_they_stand(self):
        self.assertEqual(read_span("4..4", 1), (4, 4))
        self.assertEqual(read_span("9..-4", 1), (9, -4))

    def test_wrong_spans(self):
        for text in ("", "..", "1..", "..2", "1...2", "1..2..3", "1.2", "1-2", "+1", "01..2", "1..02", "-0", "1 ..2"):
            with self.subTest(text):
                with self.assertRaises(BadText) as caught:
                    read_span(text, 5)
                self.assertEqual(caught.exception.place, 5)


if __name__ == "__main__":
    unittest.main()
