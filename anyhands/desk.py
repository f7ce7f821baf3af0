"""A desk: requests to a Roster, a line each, and the replies to them."""

from anyhands.errors import BadLine, NoHour, NoStretch, NothingDone, TooFew, Unfit, Unlike
from anyhands.order import compare
from anyhands.roster import Roster
from anyhands.texts import lot_text, numbers_text
from anyhands.words import lot_in, number_in, number_text

# For each request but compare the least number that may stand at each place behind its word.
_LEASTS = {
    "add": (0, 0, 1), "remove": (0, 0, 1), "hire": (0, 1), "fire": (0, 1), "pass": (), "back": (),
    "lot": (), "ahead": (), "finished": (), "missed": (), "calendar": (), "now": (), "deeds": (),
    "safe": (), "miss": (), "short": (), "tight": (), "room": (0, 0), "spare": (0,),
}
_COMPARE = "compare "
_DEEDS = ("add", "remove", "hire", "fire", "pass", "back")


def _hours_in(line):
    """How many hours the first line tells; None if it is not so written."""
    words = line.split(" ")
    hours = number_in(words[-1])
    if words[:-1] != ["hours:"] or hours is None or not 1 <= hours <= 8:
        return None
    return hours


def _request_in(line):
    """The word of the request in this line, and what stands behind it; None if the line is none."""
    if line.startswith(_COMPARE):
        lot = lot_in(line[len(_COMPARE):])
        return None if lot is None else ("compare", (lot,))
    words = line.split(" ")
    leasts = _LEASTS.get(words[0])
    numbers = [number_in(word) for word in words[1:]]
    if leasts is None or len(numbers) != len(leasts) or None in numbers:
        return None
    if any([number < least for number, least in zip(numbers, leasts)]):
        return None
    return words[0], tuple(numbers)


def _stretches_text(stretches):
    """The stretches with blanks between, each as both numbers with - between; - for none."""
    return " ".join([f"{first}-{last}" for first, last in stretches]) if stretches else "-"


def _number_or_no(number):
    """The text of the number; no for None."""
    return "no" if number is None else number_text(number)


def _do(roster, word, given):
    """Do this deed of the Roster, or take the last one back."""
    match word:
        case "add":
            roster.add(given[0], given[1], given[2])
        case "remove":
            roster.remove(given[0], given[1], given[2])
        case "hire":
            roster.hire(given[0], given[1])
        case "fire":
            roster.fire(given[0], given[1])
        case "pass":
            roster.pass_hour()
        case "back":
            roster.back()


def _told(roster, word, given):
    """The reply to a request that changes nothing."""
    match word:
        case "lot":
            return lot_text(roster.lot())
        case "ahead":
            return lot_text(roster.ahead())
        case "finished":
            return lot_text(roster.finished())
        case "missed":
            return lot_text(roster.missed())
        case "calendar":
            return numbers_text(roster.calendar())
        case "now":
            return number_text(roster.now())
        case "deeds":
            return number_text(len(roster))
        case "safe":
            return "yes" if roster.is_safe() else "no"
        case "miss":
            return number_text(roster.will_miss())
        case "short":
            short = roster.first_short()
            return _stretches_text([] if short is None else [short])
        case "tight":
            return _stretches_text(roster.tight())
        case "room":
            return _number_or_no(roster.room(given[0], given[1]))
        case "spare":
            return _number_or_no(roster.spare(given[0]))
        case _:
            return compare(roster.ahead(), given[0])


def _answer(roster, word, given):
    """The reply to this request, which may raise an error."""
    if word not in _DEEDS:
        return _told(roster, word, given)
    _do(roster, word, given)
    return lot_text(roster.lot())


def _reply(roster, word, given):
    """The reply to this request, be it refused."""
    try:
        return _answer(roster, word, given)
    except Unlike:
        return "refused Unlike"
    except Unfit:
        return "refused Unfit"
    except NothingDone:
        return "refused NothingDone"
    except NoHour as none:
        return f"refused NoHour {number_text(none.hour)}"
    except NoStretch as wrong:
        return f"refused NoStretch {number_text(wrong.first)} {number_text(wrong.last)}"
    except TooFew as few:
        return f"refused TooFew {number_text(few.first)} {number_text(few.last)}"


def replies(text):
    """The replies to the requests in this text; raises BadLine for the first line that is not as it must be."""
    lines = text.split("\n")
    hours = _hours_in(lines[0])
    if hours is None:
        raise BadLine(0)
    requests = [_request_in(line) for line in lines[1:]]
    if None in requests:
        raise BadLine(requests.index(None) + 1)
    roster = Roster(hours)
    return [_reply(roster, word, given) for word, given in requests]
