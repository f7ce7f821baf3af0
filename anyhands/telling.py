"""Prices that tell a LOT: which stretches prices see, and the fewest rows of prices by which all can be told."""

from anyhands.checks import need_rows
from anyhands.lots import hours_of, is_lot, made_lot
from anyhands.plain import with_tuples
from anyhands.prices import cheapest
from anyhands.tables import all_stretches, lot_of


def _weight(prices, first, last):
    """How far the least price of the stretch is above those around it; not above 0 if it is not seen."""
    ahead = prices[first - 1] if first > 0 else 0
    behind = prices[last + 1] if last < len(prices) - 1 else 0
    return min(prices[first:last + 1]) - max(ahead, behind)


def weights_of(prices):
    """The ascending tuple of the pairs (stretch, weight) of the stretches that the prices see."""
    weights = [((first, last), _weight(prices, first, last)) for first, last in all_stretches(len(prices))]
    return tuple([(stretch, weight) for stretch, weight in weights if weight > 0])


def seen(prices):
    """The set of the stretches that the prices see."""
    return tuple([stretch for stretch, _ in weights_of(prices)])


def prices_of(hours, weights):
    """The prices of which these are the weights; None if there are none."""
    told = with_tuples(weights)
    # A price is the sum of the weights of the seen stretches that have its hour.
    prices = [sum([weight for (first, last), weight in told if first <= hour <= last]) for hour in range(hours)]
    return tuple(prices) if weights_of(prices) == told else None


def bills_of(lot, rows):
    """The tuple of what the LOT costs by each of the rows; raises Unfit if one has not as many numbers."""
    return tuple([cheapest(lot, row) for row in rows])


def fewest_rows(hours):
    """The least number of rows of prices by which LOTs of so many hours can be told."""
    return len(_stretches_of_rows(hours))


def _stretches_of_rows(hours):
    """For each of the fewest rows the stretches that it sees; each stretch is seen by just one of them."""
    # Take a stretch as the chord from corner first to corner last + 2 of a polygon with hours + 2 corners: one row can
    # see the stretches of chords that do not cross. Chords whose corners have the same sum, counted around the polygon,
    # are parallel; those with the next sum do not cross them, so that each row takes two sums.
    rows = {}
    for first, last in all_stretches(hours):
        place = (first + last) % (hours + 2) // 2
        rows.setdefault(place, []).append((first, last))
    return list(rows.values())


def _powers(base, many):
    """So many powers of the base, from 1 on."""
    powers = []
    power = 1
    for _ in range(many):
        powers.append(power)
        power *= base
    return powers


def telling_rows(hours, most):
    """The fewest rows of prices by which LOTs with at most so much work have unlike bills, if they are unlike."""
    # No stretch asks more than most, so that a bill has what each seen stretch asks as a digit.
    rows = _stretches_of_rows(hours)
    return tuple([prices_of(hours, list(zip(row, _powers(most + 1, len(row))))) for row in rows])


def lot_by_bills(hours, most, bills):
    """The LOT with at most so much work that has these bills by telling_rows; None if there is none."""
    numbers = {}
    for row, bill in zip(_stretches_of_rows(hours), bills):
        left = bill
        for stretch in row:
            left, numbers[stretch] = divmod(left, most + 1)
    lot = lot_of(hours, [numbers[stretch] for stretch in all_stretches(hours)])
    if lot is None or bills_of(lot, telling_rows(hours, most)) != with_tuples(bills):
        return None
    return lot


def unseen(hours, rows):
    """The set of the stretches that none of the rows sees."""
    need_rows(hours, rows)
    known = [stretch for row in rows for stretch in seen(row)]
    return tuple([stretch for stretch in all_stretches(hours) if stretch not in known])


def blind_pair(hours, rows):
    """Two LOTs that ask the same of all stretches but one, which none of the rows sees; None if each is seen."""
    dark = unseen(hours, rows)
    if not dark:
        return None
    first, last = dark[0]
    one, other = [((first, last), 1)], []
    if first > 0:
        other.append(((first - 1, last), 1))
    if last < hours - 1:
        other.append(((first, last + 1), 1))
    if len(other) == 2:
        one.append(((first - 1, last + 1), 1))
    return made_lot(hours, one), made_lot(hours, other)


def is_blind_pair(hours, rows, thing):
    """Whether thing is a pair of two unlike LOTs of so many hours with the same bills by the rows."""
    need_rows(hours, rows)
    if not isinstance(thing, tuple) or len(thing) != 2:
        return False
    if not all([is_lot(part) and hours_of(part) == hours for part in thing]):
        return False
    one, other = thing
    return one != other and bills_of(one, rows) == bills_of(other, rows)
