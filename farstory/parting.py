"""Parting: when rows are laid, and which further frames make sure whether they are."""

from farstory.chains import first_steps, steps_behind
from farstory.errors import NoRow, Refused
from farstory.logs import outstanding
from farstory.offsets import Past
from farstory.passes import laid_when
from farstory.setups import need_kind
from farstory.stretches import has, merged
from farstory.words import is_integer, is_number, is_of_parts, need_integer

MOST_STAMPS = 100


class Outlook:
    """What the logs tell of what comes behind their last frame."""

    def __init__(self, setup, logs):
        self.past = Past(setup, logs)
        self.lot = self.past.common_lot()
        self.stamp = self.past.last[1]
        self.letter = outstanding(self.past.frames, self.past.letters)

    def need_silence(self, logs):
        """Refuses the logs if a letter is out."""
        if self.letter is not None:
            raise Refused(logs)

    def need_letter(self, logs):
        """Refuses the logs if no letter is out."""
        if self.letter is None:
            raise Refused(logs)

    def need_later(self, stamp):
        """Refuses what is no stamp behind the last frame's."""
        if not is_number(stamp) or stamp <= self.stamp:
            raise Refused(stamp)

    def need_unlaid(self, kind, row):
        """Refuses what is no kind's number, or no row's that the last frame does not tell laid."""
        need_kind(self.past.kinds, kind)
        if not is_number(row) or row < self.past.last[3][kind][0]:
            raise NoRow(row)

    def stamps_of(self, kind, row):
        """(least, greatest) stamp of a row behind the last frame."""
        gap, pause, _ = self.past.kinds[kind]
        laid, _, last = self.past.last[3][kind]
        return steps_behind(gap, pause, last, self.stamp + 1, row - laid + 1)

    def ticks_of(self, kind, row):
        """(least, greatest) tick at which a row behind the last frame is laid."""
        soonest, latest = self.stamps_of(kind, row)
        return soonest + self.lot[0][0], latest + self.lot[-1][1]

    def tellings(self, kind, stamp):
        """All (laid, last) that a further frame of a stamp can tell of a kind, as a list."""
        gap, pause, _ = self.past.kinds[kind]
        laid, _, last = self.past.last[3][kind]
        found = []
        if first_steps(gap, pause, last)[1] > stamp:
            found.append((laid, last))
        row = laid
        least, greatest = self.stamps_of(kind, row)
        while least <= stamp:
            row += 1
            # The next row comes behind the frame.
            low, high = max(least, stamp - pause + 1), min(greatest, stamp)
            found.extend([(row, later) for later in range(low, high + 1)])
            least, greatest = self.stamps_of(kind, row)
        return found

    def stamps_by(self, kind, row, stamp, told):
        """(least, greatest) stamp of a row by what a further frame of a stamp tells: (laid, last)."""
        gap, pause, _ = self.past.kinds[kind]
        laid, last = told
        if row >= laid:
            return steps_behind(gap, pause, last, stamp + 1, row - laid + 1)
        least, greatest = self.stamps_of(kind, row)
        steps = laid - 1 - row
        return max(least, last - steps * pause), min(greatest, last - steps * gap)

    def paper(self, kind, row, tick, stamp):
        """Some paper (laid, last, heard, one, other) by which it stays open; None if a frame surely parts it."""
        # All offsets lie within the way of one hearing: so one tick of hearing can leave them all.
        low, high = self.lot[0][0], self.lot[-1][1]
        for told in self.tellings(kind, stamp):
            least, greatest = self.stamps_by(kind, row, stamp, told)
            if low + least <= tick < high + greatest:
                heard = stamp + high + self.past.setup[1][0]
                return (*told, heard, (low, least), (high, greatest))
        return None

    def is_by(self, value, kind, row, stamp, told, heard):
        """Whether any value is (offset, stamp of the row) of a story in which a frame tells this and is heard so."""
        if not is_of_parts(value, 2) or not is_integer(value[0]) or not is_integer(value[1]):
            return False
        low, high = self.past.setup[1]
        if not has(self.lot, value[0]) or not low <= heard - stamp - value[0] <= high:
            return False
        least, greatest = self.stamps_by(kind, row, stamp, told)
        return least <= value[1] <= greatest

    def is_paper(self, kind, row, tick, stamp, value):
        """Whether any value is a paper by which it stays open."""
        if not is_of_parts(value, 5) or not is_number(value[0]) or not is_integer(value[2]):
            return False
        told = (value[0], value[1])
        if value[1] is not None and not is_number(value[1]) or told not in self.tellings(kind, stamp):
            return False
        one, other = value[3:]
        if not all([self.is_by(story, kind, row, stamp, told, value[2]) for story in (one, other)]):
            return False
        return sum(one) <= tick < sum(other)

    def takings(self):
        """The stretches of all stamps at which the letter that is out can be taken by the copies that were sent."""
        least, most = self.past.setup[2]
        ways = [(tick + least - high, tick + most - low) for tick in self.letter[2] for low, high in self.lot]
        return merged([(max(low, self.stamp + 1), high) for low, high in ways if high > self.stamp])


def outlook_for(setup, logs, kind, row):
    """What the logs tell of a row behind their last frame."""
    here = Outlook(setup, logs)
    here.need_unlaid(kind, row)
    return here


def laid_ticks(setup, logs, kind, row):
    """(soonest, latest) tick at which the row is laid."""
    return outlook_for(setup, logs, kind, row).ticks_of(kind, row)


def laid_word(setup, logs, kind, row, tick):
    """Whether the row is laid by that tick: "laid" in all stories, "later" in none, else "open"."""
    soonest, latest = laid_ticks(setup, logs, kind, row)
    need_integer(tick)
    if latest <= tick:
        return "laid"
    return "later" if tick < soonest else "open"


def joining_ticks(setup, logs, kind, row, many):
    """(the row with which the row comes into a span of so many or more, soonest, latest tick); None if it is in one."""
    here = Outlook(setup, logs)
    need_kind(here.past.kinds, kind)
    laid, first, _ = here.past.last[3][kind]
    if not is_number(row) or row < first:
        raise NoRow(row)
    joined = laid_when(here.past.kinds[kind][2], first, row, many)
    return None if joined <= laid else (joined - 1, *here.ticks_of(kind, joined - 1))


def outlook_at(setup, logs, kind, row, tick):
    """What the logs, of which no letter is out, tell of a row and a tick."""
    here = Outlook(setup, logs)
    here.need_silence(logs)
    here.need_unlaid(kind, row)
    need_integer(tick)
    return here


def parting(setup, logs, kind, row, tick, stamp):
    """None if a frame of that stamp surely parts whether the row is laid by a tick; else some paper."""
    here = outlook_at(setup, logs, kind, row, tick)
    here.need_later(stamp)
    return here.paper(kind, row, tick, stamp)


def parting_holds(setup, logs, kind, row, tick, stamp, value):
    """Whether any value is a paper by which a frame of that stamp leaves it open."""
    here = outlook_at(setup, logs, kind, row, tick)
    here.need_later(stamp)
    return here.is_paper(kind, row, tick, stamp, value)


def parting_stamps(setup, logs, kind, row, tick, low, high):
    """Ascending the stamps, from low to high, of which a frame surely parts it."""
    here = outlook_at(setup, logs, kind, row, tick)
    here.need_later(low)
    if not is_number(high) or not low <= high < low + MOST_STAMPS:
        raise Refused(high)
    return tuple([stamp for stamp in range(low, high + 1) if here.paper(kind, row, tick, stamp) is None])


def letter_stamps(setup, logs):
    """The least and the greatest stamp at which the letter that is out can be taken; None if there is none."""
    here = Outlook(setup, logs)
    here.need_letter(logs)
    takings = here.takings()
    return (takings[0][0], takings[-1][1]) if takings else None


def telling(setup, logs, stamp):
    """Whether a frame of that stamp makes sure if the letter that is out is ever taken: surely, perhaps, or not."""
    here = Outlook(setup, logs)
    here.need_letter(logs)
    here.need_later(stamp)
    latest = max(here.letter[2]) + here.past.setup[2][1]
    # Told as not taken it is sure by those offsets by which no copy can come behind the frame.
    if latest - here.lot[0][0] <= stamp:
        return "surely"
    # Behind this stamp a copy can come: so there are stamps of taking.
    can_be_told = here.takings()[0][0] <= stamp
    return "perhaps" if can_be_told or latest - here.lot[-1][1] <= stamp else "not"
