"""Houses apart: what some of them tell, what others add, and which ones are enough."""

from itertools import combinations

from farstory.aboard import marks_now, need_row, words_now
from farstory.counts import heard_present
from farstory.errors import Quarrel, Refused
from farstory.logs import check_logs, tightest_places
from farstory.setups import check_setup, need_kind
from farstory.stories import need_now
from farstory.words import is_number, is_sequence


def longer(one, other):
    """The longer of two logs of which one is a beginning of the other; None if neither is."""
    many = min(len(one), len(other))
    if one[:many] != other[:many]:
        return None
    return one if len(one) > many else other


def join_logs(setup, one, other):
    """By house the longer log of two reports."""
    mine = check_logs(setup, one)
    yours = check_logs(setup, other)
    if len(mine) != len(yours):
        raise Refused(other)
    logs = []
    for house, (log, report) in enumerate(zip(mine, yours)):
        whole = longer(log, report)
        if whole is None:
            raise Quarrel(("logs", house))
        logs.append(whole)
    return tuple(logs)


def is_lot(many, value):
    """Whether any value is a lot of so many houses."""
    if not is_sequence(value) or len(value) == 0 or not all([is_number(house) for house in value]):
        return False
    if value[0] != 0 or value[-1] >= many:
        return False
    return all([one < other for one, other in zip(value, value[1:])])


def need_lot(logs, lot):
    if not is_lot(len(logs), lot):
        raise Refused(lot)


def part_of(logs, lot):
    return tuple([log if house in lot else () for house, log in enumerate(logs)])


def part_logs(setup, logs, lot):
    """The logs in which only the houses of the lot have rows."""
    rows = check_logs(setup, logs)
    need_lot(rows, lot)
    return part_of(rows, lot)


def tightest(setup, logs, house):
    """(place, place) of the first hearing that was least on the way, of the first that was most; None without one."""
    rows = check_logs(setup, logs)
    if not is_number(house) or house >= len(rows):
        raise Refused(house)
    return tightest_places(rows[house])


def view_of(setup, logs, now):
    """The view by checked logs; None if no frame was heard."""
    here = heard_present(setup, logs, now)
    if here is None:
        return None
    return here.lot, here.letter_word(), tuple([marks_now(here, kind) for kind in range(len(here.past.kinds))])


def logs_at(setup, logs, now):
    """The logs as tuples, the tick being none ahead of their rows."""
    rows = check_logs(setup, logs)
    need_now(rows, now)
    return rows


def view(setup, logs, now):
    """(offsets, word of the letter that is out, by kind (first row aboard, rows laid)); None if no frame was heard."""
    return view_of(setup, logs_at(setup, logs, now), now)


def lot_view(setup, logs, now, lot):
    """The view by the houses of the lot alone."""
    rows = logs_at(setup, logs, now)
    need_lot(rows, lot)
    return view_of(setup, part_of(rows, lot), now)


def many_of(lot):
    """How many integers there are in stretches."""
    return sum([high - low + 1 for low, high in lot])


def gain(whole, more):
    """(how many offsets fewer, by kind how many marks fewer) the second view tells; Nones without a first one."""
    if whole is None:
        return None, None
    fewer = [len(marks) - len(others) for marks, others in zip(whole[2], more[2])]
    return many_of(whole[0]) - many_of(more[0]), tuple(fewer)


def view_gains(setup, logs, now, lot):
    """(house, how many offsets fewer, by kind how many marks fewer) by each house that is not of the lot."""
    rows = logs_at(setup, logs, now)
    need_lot(rows, lot)
    whole = view_of(setup, part_of(rows, lot), now)
    found = []
    for house in range(len(rows)):
        if house not in lot:
            more = view_of(setup, part_of(rows, (*lot, house)), now)
            found.append((house, *gain(whole, more)))
    return tuple(found)


def is_enough(setup, logs, now, lot):
    """Whether the lot tells the view of all houses."""
    rows = logs_at(setup, logs, now)
    whole = view_of(setup, rows, now)
    need_lot(rows, lot)
    return view_of(setup, part_of(rows, lot), now) == whole


def all_lots(many):
    """All lots of so many houses, the shorter ones first, then the least, as a list."""
    lots = []
    for more in range(many):
        lots.extend([(0, *houses) for houses in combinations(range(1, many), more)])
    return lots


def has_within(lots, lot):
    """Whether one of the lots lies within another lot."""
    return any([all([house in lot for house in one]) for one in lots])


def enough_lots(setup, logs, now):
    """The least lots that tell the view of all houses, the shorter ones first, then the least."""
    rows = logs_at(setup, logs, now)
    whole = view_of(setup, rows, now)
    found = []
    for lot in all_lots(len(rows)):
        if not has_within(found, lot) and view_of(setup, part_of(rows, lot), now) == whole:
            found.append(lot)
    return tuple(found)


def is_sure(setup, logs, now, kind, row):
    """Whether by checked logs a frame was heard, and the row has one word in all stories."""
    here = heard_present(setup, logs, now)
    return here is not None and len(words_now(here, kind, row)) == 1


def sure_lots(setup, logs, now, kind, row):
    """The least lots by whose logs it is sure which word the row has, the shorter ones first, then the least."""
    rows = logs_at(setup, logs, now)
    heard_present(setup, rows, now)
    need_kind(check_setup(setup)[0], kind)
    need_row(row)
    found = []
    for lot in all_lots(len(rows)):
        if not has_within(found, lot) and is_sure(setup, part_of(rows, lot), now, kind, row):
            found.append(lot)
    return tuple(found)
