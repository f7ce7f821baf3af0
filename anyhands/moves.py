"""MOVES: single changes by which a LOT comes to ask less, and the PATHS that they make."""

from anyhands.checks import need_alike
from anyhands.errors import NoMove
from anyhands.lots import hours_of, made_lot
from anyhands.order import never_more
from anyhands.plain import is_number, with_tuples
from anyhands.tables import all_stretches, is_stretch, table_of


def is_move(hours, thing):
    """Whether thing is a MOVE of so many hours."""
    if not isinstance(thing, tuple) or len(thing) not in (2, 3):
        return False
    if not all([is_stretch(hours, window) for window in thing[1:]]):
        return False
    kind = thing[0]
    first, last = thing[-1]
    if len(thing) == 3:
        begin, end = thing[1]
        return kind == "cross" and begin < first and last < end
    if kind == "front":
        return first > 0
    return kind == "out" or (kind == "back" and last < hours - 1)


def _all_moves(hours):
    """The ascending list of all MOVES of so many hours."""
    windows = all_stretches(hours)
    backs = [("back", (first, last)) for first, last in windows if last < hours - 1]
    crosses = [("cross", (begin, end), (first, last)) for begin, end in windows
               for first, last in windows if begin < first and last < end]
    fronts = [("front", (first, last)) for first, last in windows if first > 0]
    outs = [("out", window) for window in windows]
    return backs + crosses + fronts + outs


def _windows_after(move):
    """The windows that the moved pieces get: as many as the MOVE names, none by "out"."""
    kind = move[0]
    first, last = move[-1]
    if kind == "front":
        return [(first - 1, last)]
    if kind == "back":
        return [(first, last + 1)]
    if kind == "cross":
        begin, end = move[1]
        return [(begin, last), (first, end)]
    return []


def _pieces(works, windows):
    """How many pieces each of these windows has; works has the work of each window."""
    return min([works.get(window, 0) for window in windows])


def _exchanged(lot, before, after, many):
    """The LOT with so many pieces fewer of each window in before, and more of each in after."""
    hours, errands = lot
    works = dict(errands)
    for window in before:
        works[window] -= many
    for window in after:
        works[window] = works.get(window, 0) + many
    return made_lot(hours, list(works.items()))


def moved(lot, move, many=1):
    """The LOT behind the MOVE, for so many pieces; raises NoMove if it is none, or there are not so many."""
    own, told = with_tuples(lot), with_tuples(move)
    if not is_move(hours_of(own), told) or _pieces(dict(own[1]), told[1:]) < many:
        raise NoMove(told)
    return _exchanged(own, told[1:], _windows_after(told), many)


def open_moves(lot):
    """The ascending list of the MOVES that can be done with a piece."""
    works = dict(with_tuples(lot[1]))
    return [move for move in _all_moves(hours_of(lot)) if _pieces(works, move[1:]) > 0]


def one_move(lot, goal):
    """The pair (MOVE, many) by which lot becomes goal; None if there is no one such."""
    need_alike(lot, goal)
    aim = with_tuples(goal)
    works, wanted = dict(with_tuples(lot[1])), dict(aim[1])
    for move in open_moves(lot):
        many = works[move[1]] - wanted.get(move[1], 0)
        if 0 < many <= _pieces(works, move[1:]) and moved(lot, move, many) == aim:
            return move, many
    return None


def _block(hours, move):
    """Of the stretches that ask less by the MOVE: low, first, last, high.

    They are those that begin behind low, not behind first, and end not ahead of last, ahead of high.
    """
    kind = move[0]
    first, last = move[-1]
    if kind == "cross":
        begin, end = move[1]
        return begin, first, last, end
    low = first - 1 if kind == "front" else -1
    high = last + 1 if kind == "back" else hours
    return low, first, last, high


def _falling(hours, move):
    """The stretches that ask one less by the MOVE."""
    low, first, last, high = _block(hours, move)
    return [(begin, end) for begin in range(low + 1, first + 1) for end in range(last, high)]


def _next_step(lot, goal):
    """The pair (MOVE, many) by which the table falls most, while goal still never asks more."""
    hours, errands = lot
    works = dict(errands)
    tables = list(zip(all_stretches(hours), table_of(lot), table_of(goal)))
    above = {stretch: more - less for stretch, more, less in tables}
    best, most = None, 0
    for move in open_moves(lot):
        falling = _falling(hours, move)
        many = min(_pieces(works, move[1:]), min([above[stretch] for stretch in falling]))
        if many * len(falling) > most:
            best, most = (move, many), many * len(falling)
    return best


def path_between(lot, goal):
    """A PATH that leads from lot to goal; None if there is none."""
    if not never_more(goal, lot):
        return None
    now, aim = with_tuples(lot), with_tuples(goal)
    path = []
    # While goal never asks more, some MOVE keeps it so; each one lessens the table, so this ends.
    while now != aim:
        move, many = _next_step(now, aim)
        path.append((move, many))
        now = _exchanged(now, move[1:], _windows_after(move), many)
    return tuple(path)


def _is_step(hours, thing):
    """Whether thing is a pair (MOVE, many) of so many hours."""
    if not isinstance(thing, tuple) or len(thing) != 2:
        return False
    return is_move(hours, thing[0]) and is_number(thing[1]) and thing[1] >= 1


def is_path(lot, goal, thing):
    """Whether thing is a PATH that leads from lot to goal."""
    need_alike(lot, goal)
    if not isinstance(thing, tuple) or not all([_is_step(hours_of(lot), step) for step in thing]):
        return False
    now = with_tuples(lot)
    for move, many in thing:
        if _pieces(dict(now[1]), move[1:]) < many:
            return False
        now = _exchanged(now, move[1:], _windows_after(move), many)
    return now == with_tuples(goal)


def _has_part(block, blocks):
    """Whether all stretches of another one of the blocks are stretches of this one, too."""
    low, first, last, high = block
    within = [other for other in blocks if low <= other[0] and other[1] <= first and other != block]
    return any([last <= other[2] and other[3] <= high for other in within])


def _least_moves(hours, moves):
    """Those of the MOVES by which not all the stretches of another one of them, and further ones, ask less."""
    blocks = [_block(hours, move) for move in moves]
    return [move for move, block in zip(moves, blocks) if not _has_part(block, blocks)]


def just_lighter(lot):
    """The ascending list of the LOTs that are just lighter than this one."""
    # Each of them comes by one MOVE of one piece, and no two MOVES lessen the same stretches.
    return sorted([moved(lot, move) for move in _least_moves(hours_of(lot), open_moves(lot))])


def just_heavier(lot):
    """The ascending list of the LOTs than which this one is just lighter."""
    own = with_tuples(lot)
    hours, works = hours_of(own), dict(own[1])
    # A MOVE can have led to this LOT if the windows that it gives have pieces here.
    back = []
    for move in _all_moves(hours):
        after = _windows_after(move)
        if not after or _pieces(works, after) > 0:
            back.append(move)
    return sorted([_exchanged(own, _windows_after(move), move[1:], 1) for move in _least_moves(hours, back)])


def is_just_lighter(one, other):
    """Whether the LOT one is just lighter than other."""
    need_alike(one, other)
    return with_tuples(one) in just_lighter(other)
