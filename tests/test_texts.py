"""Promise [15]: texts."""

import itertools
import random
import re
import unittest

from anyhands import texts
from anyhands.errors import BadLine, BadText
from anyhands.lots import times_over
from anyhands.texts import (
    lot_text, numbers_text, ranges_text, read_lot, read_numbers, read_ranges, read_sheet, sheet_text,
)
from tests.support import (
    BIG, NUMBER, check_error, check_same, check_value, edited, grid, lots_of_work, plain_read_lot, run_examples,
    small_lots, some_lot, written_as,
)

EXAMPLES = r"""
    >>> lot_text((4, (((0, 2), 3), ((1, 1), 12)))), lot_text((1, ())), numbers_text((3, 0, 10)), ranges_text(((0, 2), (5, 5)))
    ('4: 0-2 3, 1-1 12', '1: -', '3 0 10', '0..2 5..5')
    >>> read_lot("4: 0-2 3, 1-1 12"), read_lot("1: -"), read_numbers("3 0 10"), read_numbers("7"), read_ranges("0..2 5..5")
    ((4, (((0, 2), 3), ((1, 1), 12))), (1, ()), (3, 0, 10), (7,), ((0, 2), (5, 5)))
    >>> sheet_text((("a", (1, ())), ("b", (3, (((0, 1), 2),))))), read_sheet("east 2: -\nwest 2: 0-1 5")
    ('a 1: -\nb 3: 0-1 2', (('east', (2, ())), ('west', (2, (((0, 1), 5),)))))
    >>> read_lot("4: 1-1 1, 0-2 3")
    raises BadText()
    >>> read_lot("4: 0-4 1")
    raises BadText()
    >>> read_numbers("3 -1")
    raises BadText()
    >>> read_ranges("2..1")
    raises BadText()
    >>> read_sheet("a 2: -\na 2: -")
    raises BadLine(number=1)
"""

LOT = (4, (((0, 2), 3), ((1, 1), 12)))
FULL = (8, tuple(((first, last), BIG - 8 * first - last) for first in range(8) for last in range(first, 8)))
SHEET = (("a", (1, ())), ("b", (3, (((0, 1), 2),))), ("ba", LOT))


def plain_lot_text(lot):
    told = "-"
    for at, ((first, last), work) in enumerate(lot[1]):
        row = str(first) + "-" + str(last) + " " + str(work)
        told = row if at == 0 else told + ", " + row
    return str(lot[0]) + ": " + told


def plain_numbers(text):
    """The numbers with this text; None if there are none."""
    if not re.fullmatch(f"{NUMBER}(?: {NUMBER})*", text):
        return None
    return tuple(int(word) for word in text.split())


def plain_ranges(text):
    if not re.fullmatch(f"{NUMBER}\\.\\.{NUMBER}(?: {NUMBER}\\.\\.{NUMBER})*", text):
        return None
    pairs = tuple(tuple(int(number) for number in word.split("..")) for word in text.split())
    return pairs if all(low <= high for low, high in pairs) else None


def plain_sheet(text):
    """The sheet with this text, or the number of the first line that is not as it must be."""
    rows = []
    for number, line in enumerate(text.split("\n")):
        parts = re.fullmatch("([a-z]{1,8}) (.*)", line)
        lot = plain_read_lot(parts[2]) if parts else None
        if lot is None or (rows and rows[-1][0] >= parts[1]):
            return number
        rows.append((parts[1], lot))
    return tuple(rows)


class Examples(unittest.TestCase):

    def test_those_of_the_document(self):
        run_examples(self, EXAMPLES, vars(texts))


class Lots(unittest.TestCase):

    def test_there_and_back(self):
        for lots in (small_lots(1, 12), small_lots(2, 3), small_lots(3, 1), lots_of_work(4, 2), lots_of_work(8, 1)):
            for lot in lots:
                text = lot_text(lot)
                self.assertEqual(text, plain_lot_text(lot))
                self.assertEqual(read_lot(text), lot)
                self.assertEqual(repr(read_lot(text)), repr(lot))

    def test_great_numbers(self):
        for lot in (FULL, times_over(FULL, BIG), times_over(FULL, BIG ** 3), (1, (((0, 0), 10 ** 119),))):
            self.assertEqual(lot_text(lot), plain_lot_text(lot))
            self.assertEqual(read_lot(plain_lot_text(lot)), lot)

    def test_numbers_of_thousands_of_digits(self):
        # Python itself writes and reads no more than 4300 digits at once.
        for number, text in ((10 ** 5000, "1" + "0" * 5000), (10 ** 6000 - 1, "9" * 6000),
                             (10 ** 4800 + 7, "1" + "0" * 4799 + "7")):
            self.assertTrue(numbers_text((0, number)) == "0 " + text)
            self.assertTrue(read_numbers(text + " 1") == (number, 1))
            self.assertTrue(lot_text((1, (((0, 0), number),))) == "1: 0-0 " + text)

    def test_edits_at_each_place(self):
        for base in ("1: -", "4: 0-2 3, 1-1 12", "2: 0-0 1, 0-1 10, 1-1 9", "3: 1-2 10"):
            self.assertIsNotNone(plain_read_lot(base))
            for text in edited(base):
                with self.subTest(text=text):
                    expected = plain_read_lot(text)
                    if expected is None:
                        with self.assertRaises(BadText):
                            read_lot(text)
                    else:
                        self.assertEqual(read_lot(text), expected)
                        self.assertEqual(lot_text(expected), text)

    def test_bad_texts(self):
        for text in ("", " ", "-", ":", ": ", "4", "4:", "4: ", "4:-", "4 : -", " 4: -", "4: - ", "4:  -", "0: -",
                     "04: -", "+4: -", "-4: -", "4: 00-2 3", "4: 0-02 3", "4: 0-2 03", "4: 0-2 +3", "4: 0-2 -3",
                     "4: 0-2 0", "4: 0-4 1", "4: 2-1 1", "4: 4-4 1", "4: -1-2 1", "4: 0-2  3", "4: 0 -2 3",
                     "4: 0- 2 3", "4: 0-2 3,", "4: 0-2 3, ", "4: 0-2 3,1-1 1", "4: 0-2 3,  1-1 1", "4: 0-2 3 , 1-1 1",
                     "4: 1-1 1, 0-2 3", "4: 0-2 3, 0-2 3", "4: 0-2 1, 0-2 2", "4: 0-2 1, 0-1 2", "4: 0-2 3\n",
                     "\n4: -", "4: -\n", "4: -, 0-2 3", "4: 0-2 3, -", "4: 0-2", "4: 0 3", "4: 0-2-3 1", "4: 0-2 3 4",
                     "4: 0-2 x", "4: a-b c", "x: -", "4; -", "4: 0_1-2 3", "4: 0-2 1_0", "4: 0-2 3.0", "4: 0-2 1e3",
                     "4: (0, 2) 3", "4.0: -", "4:\t-", "4: 0-2\t3", "~", "4: ~"):
            check_error(self, read_lot, {"text": text}, BadText())

    def test_digits_of_other_kinds(self):
        # Signs beyond the tilde are out of the bounds; still none of them is a digit.
        for digit in ("\u0663", "\u00b2", "\uff14", "\u2460"):
            for text in (f"{digit}: -", f"4: 0-2 {digit}", f"4: 0-{digit} 1"):
                check_error(self, read_lot, {"text": text}, BadText())
            check_error(self, read_numbers, {"text": digit}, BadText())

    def test_forms(self):
        for lot in (LOT, (1, ()), FULL):
            check_value(self, lot_text, {"lot": lot}, plain_lot_text(lot))
            check_value(self, read_lot, {"text": plain_lot_text(lot)}, lot)


class Numbers(unittest.TestCase):

    def test_there_and_back(self):
        for hours in (1, 2, 3):
            for numbers in grid(hours, 11 if hours < 3 else 4):
                text = " ".join(map(str, numbers))
                self.assertEqual(numbers_text(numbers), text)
                self.assertEqual(read_numbers(text), numbers)
        for numbers in ((BIG,), (0,) * 60, (BIG ** 4, 0, BIG), tuple(range(9, 111)),
                        tuple(10 ** digits for digits in range(190))):
            self.assertEqual(numbers_text(numbers), " ".join(map(str, numbers)))
            self.assertEqual(read_numbers(numbers_text(numbers)), numbers)
        for digits in range(1, 190):
            for number in (10 ** digits, 10 ** digits - 1, 10 ** digits + 1, 7 * 10 ** (digits - 1)):
                self.assertEqual(numbers_text((number,)), str(number))
                self.assertEqual(read_numbers(str(number)), (number,))

    def test_edits_at_each_place(self):
        for base in ("0", "3 0 10", "7 7", "100 20 3"):
            for text in edited(base):
                with self.subTest(text=text):
                    expected = plain_numbers(text)
                    if expected is None:
                        with self.assertRaises(BadText):
                            read_numbers(text)
                    else:
                        self.assertEqual(read_numbers(text), expected)

    def test_bad_texts(self):
        for text in ("", " ", "00", "01", "3 01", "3 -1", "-0", "+1", "3  1", " 3", "3 ", "3,1", "3\n1", "3\n", "x",
                     "3 x", "1.0", "1e1", "1_0", "0x1", "3\t1", "-", "None", "True", "~"):
            check_error(self, read_numbers, {"text": text}, BadText())

    def test_forms(self):
        check_value(self, numbers_text, {"numbers": (3, 0, 10)}, "3 0 10")
        check_value(self, read_numbers, {"text": "3 0 10"}, (3, 0, 10))


class Ranges(unittest.TestCase):

    def test_there_and_back(self):
        pairs = [(low, high) for low in range(4) for high in range(low, 4)] + [(0, 10), (10, 10), (9, 11), (0, BIG)]
        for hours in (1, 2):
            for ranges in itertools.product(pairs, repeat=hours):
                text = " ".join(f"{low}..{high}" for low, high in ranges)
                self.assertEqual(ranges_text(ranges), text)
                self.assertEqual(read_ranges(text), ranges)
        great = ((BIG ** 3, BIG ** 4),) * 8
        self.assertEqual(read_ranges(ranges_text(great)), great)

    def test_edits_at_each_place(self):
        for base in ("0..0", "0..2 5..5", "9..10 10..11 0..7"):
            for text in edited(base):
                with self.subTest(text=text):
                    expected = plain_ranges(text)
                    if expected is None:
                        with self.assertRaises(BadText):
                            read_ranges(text)
                    else:
                        self.assertEqual(read_ranges(text), expected)
                        self.assertTrue(written_as([(0, 0)], read_ranges(text)))

    def test_bad_texts(self):
        for text in ("", " ", "1", "1 2", "1..", "..1", "..", "1.2", "1...2", "1..2..3", "2..1", "1..2 3..2", "01..2",
                     "1..02", "-1..2", "1..-2", "+1..2", "1 ..2", "1.. 2", "1..2 ", " 1..2", "1..2  3..4", "1..2,3..4",
                     "1..2\n", "1..2\n3..4", "a..b", "1..2 3", "1-2", "10..9"):
            check_error(self, read_ranges, {"text": text}, BadText())

    def test_forms(self):
        check_value(self, ranges_text, {"ranges": ((0, 2), (5, 5))}, "0..2 5..5")
        check_value(self, read_ranges, {"text": "0..2 5..5"}, ((0, 2), (5, 5)))


class Sheets(unittest.TestCase):

    def test_there_and_back(self):
        names = ("a", "aa", "ab", "b", "zzzzzzzz")
        lots = [*lots_of_work(2, 1), (1, (((0, 0), 10),))]
        for many in (1, 2):
            for some in itertools.combinations(names, many):
                for row in itertools.product(lots, repeat=many):
                    sheet = tuple(zip(some, row))
                    text = "\n".join(f"{name} {plain_lot_text(lot)}" for name, lot in sheet)
                    self.assertEqual(sheet_text(sheet), text)
                    self.assertEqual(read_sheet(text), sheet)

    def test_sixty_lines(self):
        chance = random.Random(60)
        names = sorted({"".join(chance.choice("abcz") for _ in range(chance.randint(1, 8))) for _ in range(300)})[:60]
        sheet = tuple((name, some_lot(chance, 8, 9, BIG)) for name in names)
        self.assertEqual(len(sheet), 60)
        self.assertEqual(read_sheet(sheet_text(sheet)), sheet)
        lines = sheet_text(sheet).split("\n")
        for number in (0, 1, 30, 59):
            for wrong in ("", "a", lines[number] + " ", lines[number].replace(": ", ":"), lines[number].upper()):
                text = "\n".join([*lines[:number], wrong, *lines[number + 1:]])
                check_error(self, read_sheet, {"text": text}, BadLine(number))

    def test_edits_at_each_place(self):
        for base in ("a 1: -", "east 2: -\nwest 2: 0-1 5", "a 1: -\nb 3: 0-1 2, 0-2 1\nc 1: 0-0 10"):
            for text in edited(base):
                with self.subTest(text=text):
                    expected = plain_sheet(text)
                    if isinstance(expected, int):
                        with self.assertRaises(BadLine) as caught:
                            read_sheet(text)
                        self.assertEqual(caught.exception.number, expected)
                    else:
                        self.assertEqual(read_sheet(text), expected)
                        self.assertEqual(sheet_text(expected), text)

    def test_bad_lines(self):
        for text, number in (("", 0), ("\n", 0), (" ", 0), ("a", 0), ("a ", 0), ("1: -", 0), (" 1: -", 0),
                             ("a  1: -", 0), ("a 1: - ", 0), (" a 1: -", 0), ("abcdefghi 1: -", 0), ("A 1: -", 0),
                             ("a1 1: -", 0), ("a-b 1: -", 0), ("a 1: -\n", 1), ("a 1: -\n\nb 1: -", 1),
                             ("\na 1: -", 0), ("a 2: -\na 2: -", 1), ("b 2: -\na 2: -", 1),
                             ("a 2: -\nb 2: -\nab 2: -", 2), ("a 2: -\nb 2: -\nb 3: -", 2), ("a 0: -", 0),
                             ("a 2: -\nb 0: -", 1), ("a 2: -\nb 02: -", 1), ("a 2: 1-1 1, 0-0 1", 0),
                             ("a 2: 0-2 1", 0), ("a 2: 0-0 0", 0), ("b 0: -\na 2: -", 0),
                             ("a 2: -\nb 2: x\na 2: -", 1), ("a 2: - b 2: -", 0), ("a\t2: -", 0), ("_ 2: -", 0),
                             ("a_b 2: -", 0)):
            check_error(self, read_sheet, {"text": text}, BadLine(number))

    def test_names(self):
        for name in ("a", "z", "abcdefgh", "zzzzzzzz", "oo"):
            check_value(self, read_sheet, {"text": f"{name} 1: -"}, ((name, (1, ())),))
        check_value(self, read_sheet, {"text": "a 1: -\naa 1: -\nb 1: -"},
                    (("a", (1, ())), ("aa", (1, ())), ("b", (1, ()))))

    def test_forms(self):
        text = check_same(self, sheet_text, {"sheet": SHEET})
        check_value(self, read_sheet, {"text": text}, SHEET)


if __name__ == "__main__":
    unittest.main()
