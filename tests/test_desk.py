"""Promise [16]: a desk."""

import random
import re
import unittest

from anyhands import desk
from anyhands.desk import replies
from anyhands.errors import BadLine, NoHour, NoStretch, NothingDone, TooFew, Unfit, Unlike
from anyhands.lots import added
from anyhands.order import compare
from anyhands.roster import Roster
from anyhands.texts import lot_text
from tests.support import (
    BIG, NUMBER, check_error, check_new, check_value, edited, kept_by, plain_read_lot, run_examples,
)

EXAMPLES = r"""
    >>> replies("hours: 4\nadd 0 2 3\nadd 1 1 2\nhire 0 1\nhire 1 2\nhire 2 1\nsafe\nmiss\nshort\nhire 2 1\ntight\nroom 0 3\nspare 1")
    ['4: 0-2 3', '4: 0-2 3, 1-1 2', '4: 0-2 3, 1-1 2', '4: 0-2 3, 1-1 2', '4: 0-2 3, 1-1 2', 'no', '1', '0-2', '4: 0-2 3, 1-1 2', '0-2 0-3 1-1', '0', '0']
    >>> replies("hours: 2\nadd 0 1 2\nhire 0 1\npass\nroom 0 1\nahead\nfinished\nadd 0 0 1\nhire 0 1\npass\nmissed\npass\nback\ncompare 2: 1-1 2")
    ['2: 0-1 2', '2: 0-1 2', '2: 0-1 1', 'no', '2: 1-1 1', '2: 0-1 1', 'refused Unfit', 'refused NoHour 0', '2: -', '2: 0-1 1', 'refused NoHour 2', '2: 0-1 1', 'lighter']
    >>> replies("hours: 1\nback\nfire 0 1\nremove 0 0 1\nadd 1 0 1\ncompare 2: -\nspare 0\nshort\ntight\ncalendar\ndeeds")
    ['refused NothingDone', 'refused TooFew 0 0', 'refused TooFew 0 0', 'refused NoStretch 1 0', 'refused Unlike', '0', '-', '-', '0', '0']
    >>> replies("hours: 4\nadd 0 0 0")
    raises BadLine(number=1)
    >>> replies("hours: 9")
    raises BadLine(number=0)
"""

FROM_ONE = "[1-9][0-9]*"
PATTERNS = (f"(add|remove) ({NUMBER}) ({NUMBER}) ({FROM_ONE})", f"(hire|fire) ({NUMBER}) ({FROM_ONE})",
            "(pass|back|lot|ahead|finished|missed|calendar|now|deeds|safe|miss|short|tight)",
            f"(room) ({NUMBER}) ({NUMBER})", f"(spare) ({NUMBER})")
ALL = ("add 0 1 1", "remove 0 1 1", "hire 0 1", "fire 0 1", "pass", "back", "lot", "ahead", "finished", "missed",
       "calendar", "now", "deeds", "safe", "miss", "short", "tight", "room 0 1", "spare 1", "compare 2: -")
KEPT = ((Unlike, ()), (Unfit, ()), (NothingDone, ()), (NoHour, ("hour",)), (NoStretch, ("first", "last")),
        (TooFew, ("first", "last")))


def plain_request(line):
    """The word and what stands behind it; None if the line is no request."""
    if line.startswith("compare "):
        lot = plain_read_lot(line[len("compare "):])
        return lot and ("compare", lot)
    for pattern in PATTERNS:
        parts = re.fullmatch(pattern, line)
        if parts:
            return parts[1], *map(int, parts.groups()[1:])
    return None


def plain_bad_line(text):
    """The number of the first line that is not as it must be; None if there is none."""
    lines = text.split("\n")
    if not re.fullmatch("hours: [1-8]", lines[0]):
        return 0
    wrong = [number for number, line in enumerate(lines) if number and plain_request(line) is None]
    return min(wrong, default=None)


def spelled(stretch):
    return "-".join(map(str, stretch))


def plain_reply(book, word, *given):
    """The reply, by the methods of the Roster."""
    deeds = {"add": "add", "remove": "remove", "hire": "hire", "fire": "fire", "pass": "pass_hour", "back": "back"}
    if word in deeds:
        getattr(book, deeds[word])(*given)
        return lot_text(book.lot())
    if word in ("lot", "ahead", "finished", "missed"):
        return lot_text(getattr(book, word)())
    short = book.first_short()
    questions = {
        "calendar": lambda: " ".join(map(str, book.calendar())), "now": lambda: str(book.now()),
        "deeds": lambda: str(len(book)), "safe": lambda: {True: "yes", False: "no"}[book.is_safe()],
        "miss": lambda: str(book.will_miss()), "short": lambda: "-" if short is None else spelled(short),
        "tight": lambda: " ".join(map(spelled, book.tight())) or "-", "compare": lambda lot: compare(book.ahead(), lot),
        "room": lambda first, last: str(book.room(first, last)).replace("None", "no"),
        "spare": lambda hour: str(book.spare(hour)).replace("None", "no"),
    }
    return questions[word](*given)


def plain_replies(text):
    lines = text.split("\n")
    book, told = Roster(int(lines[0][-1])), []
    for line in lines[1:]:
        before = book.twin()
        try:
            told.append(plain_reply(book, *plain_request(line)))
        except tuple(kind for kind, _ in KEPT) as error:
            names = dict(KEPT)[type(error)]
            assert tuple(kept_by(error)) == names
            told.append(" ".join(["refused", type(error).__name__, *(str(getattr(error, name)) for name in names)]))
            assert book == before and len(book) == len(before)
    return told


class Examples(unittest.TestCase):

    def test_those_of_the_document(self):
        run_examples(self, EXAMPLES, vars(desk))


class Requests(unittest.TestCase):

    def check(self, text, *expected):
        with self.subTest(text=text):
            check_value(self, replies, {"text": text}, list(expected))

    def test_each_hour_alone(self):
        for hours in range(1, 9):
            self.check(f"hours: {hours}")
            self.check(f"hours: {hours}\nlot\ncalendar\nnow\ndeeds", f"{hours}: -", " ".join("0" * hours), "0", "0")

    def test_each_request(self):
        self.check("hours: 3\nadd 0 1 12\nremove 0 1 2\nhire 1 3\nfire 1 2\ncalendar\ndeeds",
                   "3: 0-1 12", "3: 0-1 10", "3: 0-1 10", "3: 0-1 10", "0 1 0", "4")
        self.check("hours: 3\nadd 0 1 12\nremove 0 1 12\nback\nback\nback", "3: 0-1 12", "3: -", "3: 0-1 12", "3: -",
                   "refused NothingDone")
        self.check("hours: 2\nadd 0 1 3\nadd 0 0 2\nhire 0 1\nhire 1 1\npass\nlot\nahead\nfinished\nmissed\nnow\ndeeds",
                   "2: 0-1 3", "2: 0-0 2, 0-1 3", "2: 0-0 2, 0-1 3", "2: 0-0 2, 0-1 3", "2: 0-1 3", "2: 0-1 3",
                   "2: 1-1 3", "2: 0-0 1", "2: 0-0 1", "1", "5")
        self.check("hours: 2\nadd 0 1 2\nsafe\nmiss\nshort\ntight\nroom 0 0\nspare 1\nhire 0 1\nhire 1 2\nsafe\nmiss\n"
                   "short\ntight\nroom 0 1\nroom 0 0\nspare 0\nspare 1\nfire 1 1\ntight",
                   "2: 0-1 2", "no", "2", "0-1", "-", "no", "no", "2: 0-1 2", "2: 0-1 2", "yes", "0", "-", "-", "1",
                   "1", "1", "1", "2: 0-1 2", "0-1")
        self.check("hours: 3\nadd 0 0 1\nadd 2 2 1\nhire 0 1\nhire 2 1\ntight", "3: 0-0 1", "3: 0-0 1, 2-2 1",
                   "3: 0-0 1, 2-2 1", "3: 0-0 1, 2-2 1", "0-0 0-1 0-2 1-2 2-2")
        self.check("hours: 2\nadd 0 1 2\ncompare 2: 0-1 2\ncompare 2: -\ncompare 2: 0-0 2\ncompare 2: 0-0 1\n"
                   "compare 3: 0-1 2",
                   "2: 0-1 2", "alike", "heavier", "lighter", "neither", "refused Unlike")
        self.check("hours: 2\nadd 0 1 2\npass\ncompare 2: 0-1 2\ncompare 2: 1-1 2\ncompare 9: -",
                   "2: 0-1 2", "2: 0-1 2", "heavier", "alike", "refused Unlike")

    def test_each_error_as_a_reply(self):
        self.check("hours: 2\nback\npass\npass\npass\nback\nnow", "refused NothingDone", "2: -", "2: -",
                   "refused NoHour 2", "2: -", "1")
        self.check("hours: 2\nadd 1 0 1\nadd 0 2 1\nadd 12 345 1\nremove 1 0 1\nroom 2 2\nroom 1 0\ndeeds",
                   "refused NoStretch 1 0", "refused NoStretch 0 2", "refused NoStretch 12 345",
                   "refused NoStretch 1 0", "refused NoStretch 2 2", "refused NoStretch 1 0", "0")
        self.check("hours: 2\npass\nadd 0 0 1\nroom 0 0\nadd 1 0 1\nhire 0 1\nfire 0 1\nspare 0\nspare 2\nhire 9 1\n"
                   "remove 0 0 1",
                   "2: -", "refused Unfit", "refused Unfit", "refused NoStretch 1 0", "refused NoHour 0",
                   "refused NoHour 0", "refused NoHour 0", "refused NoHour 2", "refused NoHour 9", "refused TooFew 0 0")
        self.check("hours: 2\nadd 0 1 2\nremove 0 1 3\nremove 0 0 1\nhire 1 2\nfire 1 3\nfire 0 1\nlot\ncalendar\n"
                   "deeds",
                   "2: 0-1 2", "refused TooFew 0 1", "refused TooFew 0 0", "2: 0-1 2", "refused TooFew 1 1",
                   "refused TooFew 0 0", "2: 0-1 2", "0 2", "2")
        self.check("hours: 1\ncompare 2: -\ncompare 1: -", "refused Unlike", "alike")

    def test_what_is_refused_changes_nothing(self):
        self.check("hours: 2\nadd 0 1 1\nadd 0 1 1\nadd 5 5 5\nfire 0 1\nback\ndeeds\nlot", "2: 0-1 1", "2: 0-1 2",
                   "refused NoStretch 5 5", "refused TooFew 0 0", "2: 0-1 1", "1", "2: 0-1 1")

    def test_great_numbers(self):
        self.check(f"hours: 8\nadd 0 7 {BIG}\nadd 0 7 {BIG}\nmiss\nhire 3 {BIG}\nmiss\nadd {BIG} 0 1\nspare {BIG}\n"
                   f"hire 3 {BIG ** 2}\nspare 3",
                   f"8: 0-7 {BIG}", f"8: 0-7 {2 * BIG}", f"{2 * BIG}", f"8: 0-7 {2 * BIG}", f"{BIG}",
                   f"refused NoStretch {BIG} 0", f"refused NoHour {BIG}", f"8: 0-7 {2 * BIG}", f"{BIG ** 2 - BIG}")

    def test_long_rows_beside_a_roster(self):
        chance = random.Random(16)
        words = {"add": 3, "remove": 3, "hire": 2, "fire": 2, "room": 2, "spare": 1}
        others = [word for word in ALL if " " not in word]
        for _ in range(150):
            hours = chance.randint(1, 8)
            lines, lot = [f"hours: {hours}"], (hours, ())
            for _ in range(59):
                word = chance.choice(list(words) * 4 + others + ["compare"])
                if word == "compare":
                    lot = added(lot, (hours, (((0, chance.randint(0, hours - 1)), 1),)))
                    lines.append(f"compare {lot_text(lot)}")
                elif word in words:
                    given = [chance.randint(0, hours) for _ in range(words[word])]
                    if word in ("add", "remove", "hire", "fire"):
                        given[-1] = chance.randint(1, 3)
                    lines.append(" ".join([word, *map(str, given)]))
                else:
                    lines.append(word)
            text = "\n".join(lines)
            self.assertEqual(replies(text), plain_replies(text), text)

    def test_forms(self):
        check_new(self, replies, {"text": "hours: 2\nadd 0 1 2\nlot"})
        check_new(self, replies, {"text": "hours: 2"})


class BadLines(unittest.TestCase):

    def check(self, text, number):
        check_error(self, replies, {"text": text}, BadLine(number))

    def test_first_lines(self):
        for line in ("", " ", "hours", "hours:", "hours: ", "hours: 0", "hours: 9", "hours: 10", "hours: 04",
                     "hours: -1", "hours: +1", "hours:4", "hours:  4", " hours: 4", "hours: 4 ", "hours: 4 4",
                     "Hours: 4", "hours : 4", "hours: x", "hours 4", "4", "lot", "hours: 4.0", "hours: hours: 4",
                     f"hours: {BIG}"):
            self.check(line, 0)
            self.check(line + "\nlot", 0)
            self.check(line + "\nno request", 0)

    def test_lines_that_are_no_requests(self):
        for line in ("", " ", "add", "add ", "add 0 1", "add 0 1 0", "add 0 1 -1", "add 0 1 1 1", "add 0 1 1 ",
                     " add 0 1 1", "add  0 1 1", "add 0  1 1", "add 00 1 1", "add 0 01 1", "add 0 1 01", "add -1 1 1",
                     "add +0 1 1", "add a 1 1", "add 0-1 1", "add 0, 1, 1", "Add 0 1 1", "ADD 0 1 1", "remove 0 1",
                     "remove 0 1 0", "hire 0", "hire 0 0", "hire 0 1 1", "hire", "fire 0 0", "fire 0", "pass 0",
                     "pass ", "pass_hour", "back 1", "lot 0", "ahead ", "deeds 1", "safe?", "miss 0", "short 0",
                     "tight 0 1", "room", "room 0", "room 0 1 2", "room 0 -1", "spare", "spare 0 1", "spare x",
                     "compare", "compare ", "compare  2: -", "compare 2:-", "compare 2: - ", "compare 0: -",
                     "compare 2: 0-2 1", "compare 2: 1-1 1, 0-0 1", "compare 2: 0-0 0", "compare lot",
                     "compare 2: -\t", "hours: 4", "twin", "undo", "1", "-", "LOT", "lot\t", "now now"):
            self.check("hours: 2\n" + line, 1)
            self.check("hours: 2\nlot\n" + line + "\nlot", 2)
            self.check("hours: 2\nback\n" + line + "\n" + line, 2)

    def test_line_feed_at_the_end(self):
        self.check("hours: 2\n", 1)
        self.check("hours: 2\nlot\n", 2)
        self.check("\nhours: 2", 0)
        self.check("hours: 2\n\nlot", 1)

    def test_ahead_of_all_replies(self):
        for number in range(1, 59):
            lines = ["hours: 2", *["back"] * 59]
            lines[number] = "bak"
            self.check("\n".join(lines), number)

    def test_edits_at_each_place(self):
        for base in ("hours: 2\nadd 0 1 1", "hours: 3\nhire 2 10\nroom 0 2", "hours: 1\npass\nback",
                     "hours: 4\nspare 10\ncompare 4: 0-1 3, 1-2 1"):
            for text in edited(base):
                with self.subTest(text=text):
                    number = plain_bad_line(text)
                    if number is None:
                        self.assertEqual(replies(text), plain_replies(text))
                    else:
                        with self.assertRaises(BadLine) as caught:
                            replies(text)
                        self.assertEqual(kept_by(caught.exception), {"number": number})

    def test_each_word_less_or_more(self):
        for line in ALL:
            self.assertEqual(len(replies("hours: 2\n" + line)), 1)
            self.check(f"hours: 2\n{line} 1", 1)
            self.check(f"hours: 2\n{line} ", 1)
            self.check(f"hours: 2\n {line}", 1)
            self.check(f"hours: 2\n{line[:-1]}", 1)
            self.check(f"hours: 2\n{line.upper()}", 1)


if __name__ == "__main__":
    unittest.main()
