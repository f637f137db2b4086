"""The ground: which letters may be sent, so that nothing is let go that is not known."""

from farstory.chains import counts_by
from farstory.counts import present
from farstory.errors import Refused
from farstory.logs import TICKS_END, check_logs, is_house_count, joined_rows, last_tick, next_letter, with_row
from farstory.passes import laid_when
from farstory.setups import MOST_LAID, check_deed, check_frame, check_setup
from farstory.shapes import shape
from farstory.stories import need_now
from farstory.stretches import merged
from farstory.values import known_span
from farstory.words import is_number


def letter_now(setup, logs):
    """(number that letters sent now must have, the deed of those of this number that were sent, None if none was)."""
    return next_letter(check_logs(setup, logs)[0])


def laid_then(here, kind):
    """As stretches, how many rows can be laid when a copy comes that is sent now, behind the last frame's stamp."""
    gap, pause, _ = here.past.kinds[kind]
    least, most = here.past.setup[2]
    begin, soonest = here.steps(kind)
    told = here.past.last[3][kind][0]
    found = []
    for low, high in here.lot:
        first = max(here.now + least - high, soonest)
        last = here.now + most - low
        if first <= last:
            # From stamp to stamp at most one row more is laid: so each number between is met.
            fewest = counts_by(gap, pause, begin, soonest, first)[0]
            found.append((told + fewest, told + counts_by(gap, pause, begin, soonest, last)[1]))
    return merged(found)


def is_known(spans, place):
    return known_span(spans, place[0], place[1]) is not None


def unknown_then(here, kind, below):
    """Ascending (first, many) that a copy sent now can let go, lying below a row, and that are not known."""
    first = here.past.last[3][kind][1]
    keep = here.past.kinds[kind][2]
    if below <= first:
        return ()
    # With so many rows laid the eldest span reaches beyond the row: then nothing lies below it any more.
    most = laid_when(keep, first, first, below - first + 1)
    gone = {}
    for low, high in laid_then(here, kind):
        for laid in range(low, min(high, most) + 1):
            for place in shape(keep, first, laid):
                if place[0] + place[1] <= below:
                    gone[place] = True
    return tuple([place for place in sorted(gone) if not is_known(here.past.told[kind], place)])


def unknown_below(setup, logs, now, kind, below):
    """Ascending (first, many) that a letter to free what lies below can let go, if sent now, and that are not known."""
    here = present(setup, logs, now, kind)
    if not is_number(below) or below > MOST_LAID:
        raise Refused(below)
    return unknown_then(here, kind, below)


def most_below(setup, logs, now, kind):
    """The greatest row such that the letter to free what lies below lets go only what is known, if sent now."""
    here = present(setup, logs, now, kind)
    stretches = laid_then(here, kind)
    if not stretches:
        return 0
    greatest = stretches[-1][1]
    ends = [first + many for first, many in unknown_then(here, kind, greatest)]
    return min(ends) - 1 if ends else greatest


def may_send(setup, logs, now, deed):
    """Whether house 0 can send a copy now, so that in no story it lets a span go that is not known now."""
    rows = check_logs(setup, logs)
    need_now(rows, now)
    told = check_deed(setup, deed)
    frames = joined_rows(rows)[0]
    number, sent = next_letter(rows[0])
    if sent is not None and sent != told:
        return False
    if told[0] == "note" or frames and frames[-1][2] >= number:
        return True
    if not frames:
        return told[2] == 0
    return unknown_below(setup, rows, now, told[1], told[2]) == ()


class Ground:
    """What houses hear and send, as logs."""

    def __init__(self, setup, houses):
        self.setup = check_setup(setup)
        if not is_house_count(houses):
            raise Refused(houses)
        self.logs = ((),) * houses

    def hear(self, house, tick, frame):
        """A house hears a frame."""
        if not is_number(house) or house >= len(self.logs):
            raise Refused(house)
        self.need_tick(tick)
        row = ("heard", tick, check_frame(self.setup, frame))
        self.logs = with_row(self.logs, house, row)

    def send(self, tick, deed):
        """House 0 sends a copy of the letter with this deed, if it may be sent; the letter."""
        self.need_tick(tick)
        if not may_send(self.setup, self.logs, tick, deed):
            raise Refused(deed)
        letter = (next_letter(self.logs[0])[0], tuple(deed))
        self.logs = with_row(self.logs, 0, ("sent", tick, letter))
        return letter

    def need_tick(self, tick):
        if not is_number(tick) or not last_tick(self.logs) <= tick < TICKS_END:
            raise Refused(tick)
