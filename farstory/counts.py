"""Counts: how many rows are laid by now, and how many lie ahead of the letter that is out."""

from farstory.chains import counts_by, first_steps, laid_by, within
from farstory.logs import check_logs, heard_rows, outstanding
from farstory.offsets import Past
from farstory.setups import need_kind
from farstory.stories import need_now
from farstory.stretches import common, merged


class Present:
    """What the logs tell of a tick behind all their rows."""

    def __init__(self, setup, logs, now):
        need_now(check_logs(setup, logs), now)
        self.past = Past(setup, logs)
        self.lot = self.past.common_lot()
        self.now = now
        self.letter = outstanding(self.past.frames, self.past.letters)

    def all_offsets(self):
        return [offset for low, high in self.lot for offset in range(low, high + 1)]

    def steps(self, kind):
        """(begin, low): rows behind the last frame go on from the last one told, none ahead of this stamp."""
        return self.past.last[3][kind][2], self.past.last[1] + 1

    def comings(self):
        """The stretches of ticks, up to now, at which a copy of the letter that is out can come."""
        if self.letter is None:
            return ()
        least, most = self.past.setup[2]
        ways = merged([(tick + least, tick + most) for tick in self.letter[2]])
        return common(ways, ((0, self.now),))

    def stamps_of_taking(self, offset):
        """The stamps at which the letter that is out can be taken, by an offset of the lot."""
        first = self.past.last[1] + 1 + offset
        return [tick - offset for low, high in self.comings() for tick in range(max(low, first), high + 1)]

    def laid_behind(self, kind, offset):
        """(fewest, most) rows of a kind that are laid behind the last frame by now."""
        gap, pause, _ = self.past.kinds[kind]
        begin, low = self.steps(kind)
        return counts_by(gap, pause, begin, low, self.now - offset)

    def laid_with(self, kind, offset, taking):
        """By count of rows behind the last frame up to the taking: (it, fewest, most by now), as a list."""
        gap, pause, _ = self.past.kinds[kind]
        begin, low = self.steps(kind)
        fewest, most = counts_by(gap, pause, begin, low, taking)
        least, greatest = within(first_steps(gap, pause, begin), (low, None))
        found = []
        for count in range(fewest, most + 1):
            # The next row is behind the taking, one step from the last row ahead of it.
            soonest = max(least + count * gap, taking + 1)
            latest = greatest if count == 0 else min(greatest + (count - 1) * pause, taking) + pause
            stamp = self.now - offset
            found.append((count, count + laid_by(latest, pause, stamp), count + laid_by(soonest, gap, stamp)))
        return found

    def laid_ways(self, kind):
        """(offset, taking, rows ahead of it, fewest, most by now) of all stories, rows being those behind the frame.

        Where the letter is not taken, the taking is None, and the rows ahead are -1.
        """
        ways = []
        for offset in self.all_offsets():
            ways.append((offset, None, -1, *self.laid_behind(kind, offset)))
            for taking in self.stamps_of_taking(offset):
                ways.extend([(offset, taking, *way) for way in self.laid_with(kind, offset, taking)])
        return ways

    def pairs(self, kind):
        """(ahead, laid, offset, taken), one for each pair of the first two; by laid, then ahead."""
        told = self.past.last[3][kind][0]
        found = {}
        for offset, taking, count, fewest, most in self.laid_ways(kind):
            ahead = -1 if count < 0 else told + count
            for laid in range(fewest, most + 1):
                found.setdefault((told + laid, ahead), (offset, taking))
        return tuple([(None if ahead < 0 else ahead, laid, *found[laid, ahead]) for laid, ahead in sorted(found)])

    def ranges(self, kind):
        """By count of rows behind the last frame up to the taking (-1: not taken) the stretches of those by now."""
        found = {}
        for way in self.laid_ways(kind):
            found.setdefault(way[2], []).append(way[3:])
        return {count: merged(laid) for count, laid in found.items()}

    def letter_word(self):
        """None if no letter is out, "untaken" if in no story it is taken, else "open"."""
        if self.letter is None:
            return None
        # By the least offset most stamps behind the last frame have come.
        return "open" if self.stamps_of_taking(self.lot[0][0]) else "untaken"


def heard_present(setup, logs, now):
    """What checked logs tell of a tick; None if no frame was heard."""
    if not heard_rows(logs):
        return None
    return Present(setup, logs, now)


def present(setup, logs, now, kind):
    """What the logs tell of a tick, the kind being one of the setup's."""
    here = Present(setup, logs, now)
    need_kind(here.past.kinds, kind)
    return here


def letter_word(setup, logs, now):
    """None if no letter is out, "untaken" if in no story it is taken, else "open"."""
    return Present(setup, logs, now).letter_word()


def pairs(setup, logs, now, kind):
    """(rows ahead of the taking, rows laid by now, offset, stamp of taking), one for each pair of the first two."""
    return present(setup, logs, now, kind).pairs(kind)


def laid_now(setup, logs, now, kind):
    """Ascending, all numbers of how many rows can be laid by now."""
    here = present(setup, logs, now, kind)
    told = here.past.last[3][kind][0]
    counts = [here.laid_behind(kind, offset) for offset in here.all_offsets()]
    return tuple(sorted({told + laid for fewest, most in counts for laid in range(fewest, most + 1)}))
