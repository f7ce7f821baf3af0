"""Promise [14]: a roster."""

import collections
import itertools
import random
import unittest

from anyhands import roster as roster_file
from anyhands.calendars import undone
from anyhands.errors import NoHour, NoStretch, NothingDone, TooFew, Unfit, Unlike
from anyhands.lots import added, all_work, made_lot
from anyhands.roster import Roster
from tests.support import (
    BIG, all_fit, grid, kept_by, least_left, lot_of_pieces, lots_of_work, run_examples, small_lots, stretches,
)

EXAMPLES = """
    >>> book = Roster(4)
    >>> book.add(0, 2, 3), book.add(1, 1, 2), book.hire(0, 1), book.hire(1, 2), book.hire(2, 1), book.is_safe(), book.will_miss(), book.first_short()
    (None, None, None, None, None, False, 1, (0, 2))
    >>> book.hire(2, 1), book.hire(3, 2), book.is_safe(), book.tight(), book.room(3, 3), book.room(1, 2), book.spare(1), book.spare(3)
    (None, None, True, ((0, 2), (1, 1)), 2, 0, 0, 2)
    >>> book.pass_hour(), book.lot(), book.finished(), book.now(), book.ahead(), book.pass_hour(), book.lot(), book.calendar()
    (None, (4, (((0, 2), 2), ((1, 1), 2))), (4, (((0, 2), 1),)), 1, (4, (((1, 1), 2), ((1, 2), 2))), None, (4, (((0, 2), 2),)), (1, 2, 2, 2))
    >>> book.fire(2, 1), book.will_miss(), book.room(2, 3), book.pass_hour(), book.missed(), book.finished(), book.back(), len(book), book == book.twin(), book == Roster(4)
    (None, 1, None, None, (4, (((0, 2), 1),)), (4, (((0, 2), 2), ((1, 1), 2))), None, 10, True, False)
    >>> book.add(1, 1, 5)
    raises Unfit()
    >>> book.remove(0, 2, 3)
    raises TooFew(first=0, last=2)
    >>> book.hire(1, 1)
    raises NoHour(hour=1)
    >>> book.room(2, 4)
    raises NoStretch(first=2, last=4)
"""

DEEDS = ("add", "remove", "hire", "fire", "pass_hour", "back")
NO_STRETCH = ((1, 0), (-1, 0), (0, 4), (4, 4), (-2, -1), (3, 2), (BIG, BIG), (-BIG, 3), (0, BIG))


class Table:
    """A Roster by pieces of work, each moved by hand."""

    def __init__(self, hours):
        self.hours, self.now = hours, 0
        self.hands = [0] * hours
        self.open, self.finished, self.missed = [], [], []
        self.past = []

    def error(self, deed, *given):
        """The error that the deed is to raise; None if it is to be done."""
        if deed == "back":
            return None if self.past else NothingDone()
        if deed == "pass_hour":
            return NoHour(self.now) if self.now >= self.hours else None
        if deed in ("hire", "fire"):
            hour, hands = given
            if hour not in range(self.now, self.hours):
                return NoHour(hour)
            return TooFew(hour, hour) if deed == "fire" and self.hands[hour] < hands else None
        first, last, work = given
        if (first, last) not in stretches(self.hours):
            return NoStretch(first, last)
        if deed == "add":
            return Unfit() if last < self.now else None
        return TooFew(first, last) if self.open.count((first, last)) < work else None

    def do(self, deed, *given):
        if deed == "back":
            self.now, self.hands, self.open, self.finished, self.missed = self.past.pop()
            return
        self.past.append((self.now, list(self.hands), list(self.open), list(self.finished), list(self.missed)))
        getattr(self, deed)(*given)

    def add(self, first, last, work):
        self.open += [(first, last)] * work

    def remove(self, first, last, work):
        for _ in range(work):
            self.open.remove((first, last))

    def hire(self, hour, hands):
        self.hands[hour] += hands

    def fire(self, hour, hands):
        self.hands[hour] -= hands

    def pass_hour(self):
        for _ in range(self.hands[self.now]):
            begun = [(last, first) for first, last in self.open if first <= self.now]
            if begun:
                window = min(begun)[::-1]
                self.open.remove(window)
                self.finished.append(window)
        self.missed += [window for window in self.open if window[1] == self.now]
        self.open = [window for window in self.open if window[1] != self.now]
        self.now += 1

    def ahead(self):
        return [(max(first, self.now), last) for first, last in self.open]

    def coming_hands(self):
        """The calendar without the hands of the hours that have gone by."""
        return tuple(own if hour >= self.now else 0 for hour, own in enumerate(self.hands))

    def told(self):
        """What the questions without arguments are to tell of the work and the hands."""
        work = [lot_of_pieces(self.hours, own) for own in (self.open, self.finished, self.missed)]
        return [self.hours, self.now, *work, tuple(self.hands), lot_of_pieces(self.hours, self.ahead()), len(self.past)]


def told(book):
    return [book.hours(), book.now(), book.lot(), book.finished(), book.missed(), book.calendar(), book.ahead(),
            len(book)]


def all_told(book):
    """All that the Roster tells, by each question."""
    hours = range(book.now(), book.hours())
    return (told(book), book.is_safe(), book.will_miss(), book.first_short(), book.tight(),
            [book.room(first, last) for first, last in stretches(book.hours()) if last >= book.now()],
            [book.spare(hour) for hour in hours])


def missed_if_all_passes(book):
    """How much is missed if all hours go by, and nothing is put in or out."""
    twin = book.twin()
    while twin.now() < twin.hours():
        twin.pass_hour()
    assert all_work(twin.lot()) == 0
    return all_work(twin.missed()) - all_work(book.missed())


def with_deed(book, deed, *given):
    twin = book.twin()
    getattr(twin, deed)(*given)
    return twin


def made_book(lot, calendar, now=0):
    """A Roster with this work and these hands, and so many hours gone by."""
    book = Roster(lot[0])
    for (first, last), work in lot[1]:
        book.add(first, last, work)
    for hour, hands in enumerate(calendar):
        if hands:
            book.hire(hour, hands)
    for _ in range(now):
        book.pass_hour()
    return book


def small_books():
    """Rosters that are small in one way or another, at each hour."""
    for hours, lots, most in ((1, small_lots(1, 3), 4), (2, small_lots(2, 1), 2), (2, lots_of_work(2, 3), 2),
                              (3, lots_of_work(3, 2), 1), (3, list(lots_of_work(3, 3))[::7], 2),
                              (4, list(lots_of_work(4, 3))[::9], 1)):
        for lot, calendar in itertools.product(list(lots), grid(hours, most)):
            book = made_book(lot, calendar)
            yield book
            for _ in range(hours):
                book = with_deed(book, "pass_hour")
                yield book


class Examples(unittest.TestCase):

    def test_those_of_the_document(self):
        run_examples(self, EXAMPLES, vars(roster_file))


class Deeds(unittest.TestCase):

    def some_deed(self, chance, hours):
        deed = chance.choice(DEEDS[:4] * 3 + ("pass_hour", "back"))
        if deed in ("hire", "fire"):
            return deed, chance.randint(-1, hours), chance.randint(1, 3)
        if deed in ("add", "remove"):
            return deed, chance.randint(-1, hours), chance.randint(-1, hours), chance.randint(1, 3)
        return (deed,)

    def try_deed(self, book, table, deed, *given):
        """Do the deed with both; it changes nothing if it is refused. Tells whether it is done."""
        error = table.error(deed, *given)
        if error is None:
            table.do(deed, *given)
            self.assertIsNone(getattr(book, deed)(*given))
            return True
        before = told(book)
        with self.assertRaises(type(error)) as caught:
            getattr(book, deed)(*given)
        self.assertIs(type(caught.exception), type(error))
        self.assertEqual(kept_by(caught.exception), kept_by(error))
        self.assertEqual(told(book), before)
        return False

    def test_long_rows_beside_a_plain_table(self):
        chance = random.Random(14)
        refused = collections.Counter()
        for _ in range(150):
            hours = chance.randint(1, 8)
            book, table = Roster(hours), Table(hours)
            for _ in range(60):
                deed = self.some_deed(chance, hours)
                if not self.try_deed(book, table, *deed):
                    refused[deed[0]] += 1
                self.assertEqual(told(book), table.told())
        self.assertTrue(all(refused[deed] > 20 for deed in DEEDS), refused)

    def test_back_all_the_way(self):
        chance = random.Random(15)
        for _ in range(40):
            hours = chance.randint(1, 8)
            book, table, kept = Roster(hours), Table(hours), []
            while len(kept) < 60:
                deed = self.some_deed(chance, hours)
                # With no hour left there would be no further deeds.
                ends = deed[0] == "pass_hour" and table.now == hours - 1 and len(kept) < 59
                if deed[0] != "back" and not ends and table.error(*deed) is None:
                    kept.append((told(book), book.twin()))
                    self.try_deed(book, table, *deed)
            self.assertEqual(len(book), 60)
            for before, twin in reversed(kept):
                self.assertIsNone(book.back())
                self.assertEqual(told(book), before)
                self.assertTrue(book == twin)
            with self.assertRaises(NothingDone):
                book.back()
            self.assertTrue(book == Roster(hours) and len(book) == 0)

    def test_all_that_is_put_in_is_open_finished_or_missed(self):
        chance = random.Random(16)
        for _ in range(60):
            hours = chance.randint(1, 6)
            book, put_in = Roster(hours), collections.Counter()
            for _ in range(60):
                deed = self.some_deed(chance, hours)
                if deed[0] == "back":
                    continue
                try:
                    getattr(book, deed[0])(*deed[1:])
                except (Unfit, NoStretch, NoHour, TooFew):
                    continue
                if deed[0] in ("add", "remove"):
                    put_in[deed[1:3]] += deed[3] if deed[0] == "add" else -deed[3]
                lots = added(added(book.lot(), book.finished()), book.missed())
                self.assertEqual(dict(lots[1]), {window: work for window, work in put_in.items() if work})

    def test_names_of_arguments(self):
        book = Roster(hours=3)
        book.add(first=0, last=2, work=4)
        book.remove(work=1, last=2, first=0)
        book.hire(hour=1, hands=5)
        book.fire(hands=2, hour=1)
        self.assertEqual((book.lot(), book.calendar(), len(book)), ((3, (((0, 2), 3),)), (0, 3, 0), 4))
        self.assertEqual((book.room(first=1, last=1), book.room(last=2, first=0), book.spare(hour=1)), (0, 0, 0))

    def test_what_is_put_out_whole_is_gone(self):
        book = Roster(3)
        book.add(1, 1, 2)
        book.add(0, 2, 1)
        book.add(1, 1, 1)
        self.assertEqual(book.lot(), (3, (((0, 2), 1), ((1, 1), 3))))
        book.remove(1, 1, 3)
        self.assertEqual(book.lot(), (3, (((0, 2), 1),)))
        book.remove(0, 2, 1)
        self.assertTrue(book == Roster(3))


class Passing(unittest.TestCase):

    def test_due_first_then_begun_first(self):
        book = made_book((4, (((0, 1), 1), ((0, 2), 1), ((1, 2), 1), ((1, 3), 1), ((2, 2), 1))), (0, 1, 2, 0), 1)
        book.pass_hour()
        self.assertEqual(book.finished(), (4, (((0, 1), 1),)))
        book.pass_hour()
        self.assertEqual(book.finished(), (4, (((0, 1), 1), ((0, 2), 1), ((1, 2), 1))))
        self.assertEqual(book.missed(), (4, (((2, 2), 1),)))
        self.assertEqual(book.lot(), (4, (((1, 3), 1),)))
        book.pass_hour()
        self.assertEqual((book.lot(), book.now()), ((4, ()), 4))

    def test_no_other_order_misses_less(self):
        for book in small_books():
            table = Table(book.hours())
            table.now, table.hands = book.now(), list(book.calendar())
            table.open = [window for window, work in book.lot()[1] for _ in range(work)]
            least = least_left(tuple(sorted(table.ahead())), table.coming_hands())
            self.assertEqual(missed_if_all_passes(book), least)
            self.assertEqual(book.will_miss(), least)

    def test_from_the_start(self):
        for hours, lots in ((2, small_lots(2, 2)), (3, lots_of_work(3, 3))):
            for lot, calendar in itertools.product(list(lots), grid(hours, 2)):
                self.assertEqual(missed_if_all_passes(made_book(lot, calendar)), undone(lot, calendar))


class Coming(unittest.TestCase):

    def test_safe_and_will_miss(self):
        for book in small_books():
            missed = missed_if_all_passes(book)
            self.assertIs(book.is_safe(), missed == 0)
            self.assertEqual(book.will_miss(), missed)

    def test_first_short_and_tight(self):
        for book in small_books():
            coming = [(first, last) for first, last in stretches(book.hours()) if first >= book.now()]
            table = [(stretch, self.asked(book, *stretch), sum(book.calendar()[stretch[0]:stretch[1] + 1]))
                     for stretch in coming]
            short = [stretch for stretch, asked, hands in table if asked > hands]
            self.assertEqual(book.first_short(), min(short, default=None))
            self.assertIs(book.first_short() is None, book.is_safe())
            self.assertEqual(book.tight(), tuple(stretch for stretch, asked, hands in table if asked == hands >= 1))

    def asked(self, book, first, last):
        """What the coming stretch asks of the open work, each window being taken from now on."""
        return sum(work for (begin, end), work in book.lot()[1] if max(begin, book.now()) >= first and end <= last)

    def test_room(self):
        for book in small_books():
            for first, last in stretches(book.hours()):
                if last < book.now():
                    continue
                room = book.room(first, last)
                self.assertIs(room is None, not book.is_safe())
                if room is not None:
                    if room:
                        self.assertEqual(missed_if_all_passes(with_deed(book, "add", first, last, room)), 0)
                    self.assertGreater(missed_if_all_passes(with_deed(book, "add", first, last, room + 1)), 0)
                    begin = max(first, book.now())
                    more = [sum(book.calendar()[low:high + 1]) - self.asked(book, low, high)
                            for low in range(book.now(), begin + 1) for high in range(last, book.hours())]
                    self.assertEqual(room, min(more))

    def test_spare(self):
        for book in small_books():
            for hour in range(book.now(), book.hours()):
                spare = book.spare(hour)
                self.assertIs(spare is None, not book.is_safe())
                if spare is not None:
                    if spare:
                        self.assertEqual(missed_if_all_passes(with_deed(book, "fire", hour, spare)), 0)
                    self.assertLessEqual(spare, book.calendar()[hour])
                    if spare < book.calendar()[hour]:
                        self.assertGreater(missed_if_all_passes(with_deed(book, "fire", hour, spare + 1)), 0)

    def test_questions_change_nothing(self):
        for book in itertools.islice(small_books(), 0, None, 5):
            twin, before = book.twin(), told(book)
            self.assertEqual(all_told(book), all_told(book))
            self.assertEqual(told(book), before)
            self.assertTrue(book == twin)

    def test_by_all_fit(self):
        chance = random.Random(17)
        for _ in range(60):
            hours = chance.randint(2, 5)
            book = Roster(hours)
            for _ in range(6):
                first = chance.randint(0, hours - 1)
                book.add(first, chance.randint(first, hours - 1), 1)
            for hour in range(hours):
                book.hire(hour, chance.randint(1, 3))
            book = with_deed(book, "pass_hour")
            pieces = tuple(window for window, work in book.ahead()[1] for _ in range(work))
            self.assertIs(book.is_safe(), all_fit(pieces, (0,) + book.calendar()[1:]))


class Twins(unittest.TestCase):

    def test_twins_share_nothing(self):
        chance = random.Random(18)
        for _ in range(30):
            book = Roster(4)
            for _ in range(20):
                first = chance.randint(book.now(), 3)
                book.add(first, chance.randint(first, 3), chance.randint(1, 3))
                book.hire(chance.randint(book.now(), 3), 1)
                if chance.random() < 0.1 and book.now() < 3:
                    book.pass_hour()
            twin = book.twin()
            self.assertIsNot(twin, book)
            self.assertTrue(twin == book and len(twin) == len(book))
            before = all_told(book)
            twin.add(3, 3, 5)
            twin.hire(3, 2)
            twin.pass_hour()
            self.assertEqual(all_told(book), before)
            self.assertFalse(twin == book)
            for _ in range(3):
                twin.back()
            self.assertTrue(twin == book)
            book.back()
            self.assertEqual(all_told(twin), before)
            while len(twin):
                twin.back()
            self.assertTrue(twin == Roster(4))
            while len(book):
                book.back()
            self.assertTrue(book == Roster(4))

    def test_equal_whatever_led_to_it(self):
        one, other = Roster(3), Roster(3)
        one.add(0, 1, 2)
        one.hire(2, 1)
        other.hire(2, 3)
        other.add(0, 1, 1)
        self.assertFalse(one == other)
        self.assertTrue(one != other)
        other.fire(2, 2)
        other.add(0, 1, 1)
        self.assertTrue(one == other)
        self.assertFalse(one != other)
        self.assertNotEqual(len(one), len(other))

    def test_unequal_by_each_part(self):
        books = [Roster(2), Roster(3), made_book((2, (((0, 0), 1),)), (0, 0)), made_book((2, (((0, 1), 1),)), (0, 0)),
                 made_book((2, ()), (1, 0)), made_book((2, ()), (0, 1)), made_book((2, ()), (0, 0), 1),
                 made_book((2, (((0, 0), 1),)), (0, 0), 1), made_book((2, (((0, 0), 1),)), (1, 0), 1),
                 made_book((2, (((0, 1), 1),)), (1, 0), 1), made_book((2, (((0, 1), 1),)), (0, 0), 1),
                 made_book((2, ()), (0, 0), 2), made_book((2, ((((0, 0), 1)), ((0, 1), 1))), (1, 0), 1)]
        for at, one in enumerate(books):
            for its, other in enumerate(books):
                self.assertIs(one == other, at == its)
                self.assertIs(one != other, at != its)

    def test_equal_to_nothing_else(self):
        book = Roster(1)
        for other in (None, 0, 1, True, "", (), [], (1, ()), {}, Unlike(), NoHour(0), Roster, object(), 0.5):
            self.assertIs(book == other, False)
            self.assertIs(other == book, False)
            self.assertIs(book != other, True)

    def test_no_iteration(self):
        for book in (Roster(3), made_book((3, (((0, 1), 2),)), (1, 1, 1))):
            for use in (iter, list, tuple, sorted, lambda own: [*own], lambda own: 0 in own, lambda own: dict(own)):
                with self.assertRaises(TypeError):
                    use(book)
            with self.assertRaises(TypeError):
                for _ in book:
                    pass

    def test_what_is_handed_out_is_tuples(self):
        for book in itertools.islice(small_books(), 0, None, 9):
            for question in ("lot", "finished", "missed", "ahead"):
                lot = getattr(book, question)()
                self.assertEqual(lot, made_lot(book.hours(), lot[1]))
                self.assertIs(type(lot[1]), tuple)
                self.assertTrue(all(type(errand) is tuple and type(errand[0]) is tuple for errand in lot[1]))
            self.assertIs(type(book.calendar()), tuple)
            self.assertIs(type(book.tight()), tuple)


class Edges(unittest.TestCase):

    def raises(self, error, function, *given):
        with self.assertRaises(type(error)) as caught:
            function(*given)
        self.assertIs(type(caught.exception), type(error))
        self.assertEqual(kept_by(caught.exception), kept_by(error))

    def test_a_new_one(self):
        for hours in range(1, 9):
            book = Roster(hours)
            none = (hours, ())
            self.assertEqual(told(book), [hours, 0, none, none, none, (0,) * hours, none, 0])
            self.assertEqual((book.is_safe(), book.will_miss(), book.first_short(), book.tight()), (True, 0, None, ()))
            self.assertEqual([book.room(*stretch) for stretch in stretches(hours)], [0] * len(stretches(hours)))
            self.assertEqual([book.spare(hour) for hour in range(hours)], [0] * hours)
            self.raises(NothingDone(), book.back)

    def test_all_hours_gone_by(self):
        for hours in (1, 2, 8):
            book = made_book((hours, (((0, hours - 1), 3),)), (1,) * hours, hours)
            work = min(3, hours)
            self.assertEqual(book.now(), hours)
            self.assertEqual((book.lot(), book.ahead()), ((hours, ()), (hours, ())))
            self.assertEqual(all_work(book.finished()), work)
            self.assertEqual(all_work(book.missed()), 3 - work)
            self.assertEqual((book.is_safe(), book.will_miss(), book.first_short(), book.tight()), (True, 0, None, ()))
            before = told(book)
            self.raises(NoHour(hours), book.pass_hour)
            for first, last in stretches(hours):
                self.raises(Unfit(), book.add, first, last, 1)
                self.raises(TooFew(first, last), book.remove, first, last, 1)
                self.raises(Unfit(), book.room, first, last)
            for hour in range(-1, hours + 2):
                self.raises(NoHour(hour), book.hire, hour, 1)
                self.raises(NoHour(hour), book.fire, hour, 1)
                self.raises(NoHour(hour), book.spare, hour)
            self.assertEqual(told(book), before)
            book.back()
            self.assertEqual(book.now(), hours - 1)

    def test_hours_below_now(self):
        book = made_book((4, (((0, 2), 3), ((1, 1), 2))), (1, 2, 1, 2), 2)
        before = told(book)
        for hour in (0, 1, -1, 4, BIG, -BIG):
            self.raises(NoHour(hour), book.hire, hour, 1)
            self.raises(NoHour(hour), book.fire, hour, 1)
            self.raises(NoHour(hour), book.fire, hour, BIG)
            self.raises(NoHour(hour), book.spare, hour)
        for first, last in ((0, 0), (0, 1), (1, 1)):
            self.raises(Unfit(), book.add, first, last, 1)
            self.raises(Unfit(), book.room, first, last)
            self.raises(TooFew(first, last), book.remove, first, last, 1)
        self.assertEqual(told(book), before)
        book.add(0, 3, 1)
        book.add(1, 2, 1)
        self.assertEqual(book.lot(), (4, (((0, 2), 2), ((0, 3), 1), ((1, 2), 1))))
        self.assertEqual(book.ahead(), (4, (((2, 2), 3), ((2, 3), 1))))
        book.remove(0, 2, 2)
        self.assertEqual(book.lot(), (4, (((0, 3), 1), ((1, 2), 1))))

    def test_no_stretch_ahead_of_all_else(self):
        for now in (0, 2, 4):
            book = made_book((4, (((0, 3), 9),)), (1, 1, 1, 1), now)
            for first, last in NO_STRETCH:
                self.raises(NoStretch(first, last), book.add, first, last, 1)
                self.raises(NoStretch(first, last), book.remove, first, last, 1)
                self.raises(NoStretch(first, last), book.room, first, last)

    def test_errors_ahead_of_none(self):
        book = made_book((3, (((0, 2), 9),)), (1, 1, 1), 1)
        self.assertIs(book.is_safe(), False)
        self.assertIsNone(book.room(0, 1))
        self.assertIsNone(book.spare(2))
        self.raises(Unfit(), book.room, 0, 0)
        self.raises(NoStretch(2, 1), book.room, 2, 1)
        self.raises(NoHour(0), book.spare, 0)
        self.raises(NoHour(3), book.spare, 3)

    def test_too_few(self):
        book = made_book((3, (((0, 2), 2), ((1, 1), 1))), (0, 2, 0))
        for first, last, work in ((0, 2, 3), (1, 1, 2), (0, 0, 1), (1, 2, 1), (0, 2, BIG)):
            self.raises(TooFew(first, last), book.remove, first, last, work)
        for hour, hands in ((0, 1), (1, 3), (2, 1), (1, BIG)):
            self.raises(TooFew(hour, hour), book.fire, hour, hands)
        book.fire(1, 2)
        self.raises(TooFew(1, 1), book.fire, 1, 1)

    def test_great_numbers(self):
        book = Roster(8)
        for _ in range(30):
            book.add(0, 7, BIG)
            book.hire(7, BIG)
        self.assertEqual(len(book), 60)
        self.assertEqual(book.lot(), (8, (((0, 7), 30 * BIG),)))
        self.assertEqual(book.calendar(), (0,) * 7 + (30 * BIG,))
        self.assertEqual((book.is_safe(), book.room(0, 7), book.spare(7), book.tight()),
                         (True, 0, 0, ((0, 7),)))
        book.hire(0, BIG)
        self.assertEqual((book.room(0, 7), book.room(1, 7), book.spare(0), book.spare(7)), (BIG, BIG, BIG, BIG))
        book.add(3, 3, BIG + 1)
        self.assertEqual((book.will_miss(), book.first_short(), book.room(7, 7), book.spare(7)),
                         (BIG + 1, (0, 3), None, None))
        for _ in range(8):
            book.pass_hour()
        self.assertEqual(book.finished(), (8, (((0, 7), 30 * BIG),)))
        self.assertEqual(book.missed(), (8, (((3, 3), BIG + 1),)))

    def test_one_hour(self):
        book = Roster(1)
        book.add(0, 0, 3)
        self.assertEqual((book.is_safe(), book.will_miss(), book.first_short(), book.tight()), (False, 3, (0, 0), ()))
        book.hire(0, 3)
        self.assertEqual((book.is_safe(), book.tight(), book.room(0, 0), book.spare(0)), (True, ((0, 0),), 0, 0))
        book.hire(0, 2)
        self.assertEqual((book.tight(), book.room(0, 0), book.spare(0)), ((), 2, 2))
        book.pass_hour()
        self.assertEqual((book.finished(), book.missed(), book.now()), ((1, (((0, 0), 3),)), (1, ()), 1))


if __name__ == "__main__":
    unittest.main()
