"""Offsets: what heard frames and taken letters tell of the past, segment by segment."""

from farstory.chains import first_steps, least_of, parted_at, stretches_of, within
from farstory.errors import Quarrel, Refused
from farstory.link import come_stamps
from farstory.logs import check_logs, joined_rows, last_tick
from farstory.setups import check_frame, check_setup
from farstory.shapes import first_behind
from farstory.stretches import common, has, merged
from farstory.values import check_told_spans, some_rows, span_quarrel
from farstory.words import is_integer


def beginning(kinds):
    """What stands ahead of the first frame, as a frame."""
    return None, -1, 0, tuple([(0, 0, None) for _ in kinds]), ()


def neighbours(kinds, frames):
    return tuple(zip([beginning(kinds), *frames], frames))


def segments(setup, frames):
    """The pairs (frame, next one) of neighbours, from the beginning on."""
    checked = check_setup(setup)
    return neighbours(checked[0], [check_frame(checked, frame) for frame in frames])


def told_spans(frames, kind):
    """Ascending, each once, the spans of a kind that cargoes tell."""
    return check_told_spans([load[1] for frame in frames for load in frame[4] if load[0] == kind])


def windows_between(one, other, kind):
    """The windows of the rows that the other frame tells behind the one; None if it tells fewer, or gainsays."""
    laid, _, last = other[3][kind]
    before = one[3][kind]
    many = laid - before[0]
    if many < 0 or many == 0 and last != before[2]:
        return None
    window = (one[1] + 1, other[1])
    if many == 0:
        return ()
    return (window,) * (many - 1) + (within((last, last), window),)


def chain_between(kinds, one, other, kind, taking):
    """By row of a segment its stretch of stamps, as a list; None if there can be no such rows.

    A taking is (count, stamp): just so many rows are at the stamp or ahead of it; None for no bound.
    """
    gap, pause, _ = kinds[kind]
    windows = windows_between(one, other, kind)
    if windows is None or first_steps(gap, pause, other[3][kind][2])[1] <= other[1]:
        return None
    if taking is not None:
        count, stamp = taking
        ahead = [within(window, (0, stamp)) for window in windows[:count]]
        windows = ahead + [within(window, (stamp + 1, None)) for window in windows[count:]]
    return stretches_of((gap, pause, one[3][kind][2], windows))


def frees_by_count(kinds, one, other, deed):
    """By count of rows ahead of the taking, with which the marks come about, the stamps of the taking."""
    _, kind, below = deed
    laid, first, _ = one[3][kind]
    stretches = chain_between(kinds, one, other, kind, None)
    found = []
    for count in range(len(stretches) + 1):
        low, high = within((one[1] + 1, other[1]), parted_at(stretches, count))
        left = first_behind(kinds[kind][2], first, laid + count, below)
        if low <= high and left == other[3][kind][1]:
            found.append((count, (low, high)))
    return tuple(found)


def is_free_of(deed, kind):
    """Whether a deed, if there is one, lets rows of the kind go."""
    return deed is not None and deed[0] == "free" and deed[1] == kind


def comes_about(kinds, one, other, deed):
    """Whether what the other frame's marks tell can come about behind the one."""
    if one[1] >= other[1]:
        return False
    for kind in range(len(kinds)):
        if chain_between(kinds, one, other, kind, None) is None:
            return False
        if is_free_of(deed, kind):
            if not frees_by_count(kinds, one, other, deed):
                return False
        elif one[3][kind][1] != other[3][kind][1]:
            return False
    return True


def taking_by_count(setup, one, other, deed):
    """(count, (low, high)) of the stamps at which the letter of a segment can be taken, by count."""
    kinds = check_setup(setup)[0]
    if deed[0] == "note":
        return ((None, (one[1] + 1, other[1])),)
    return frees_by_count(kinds, one, other, deed)


def letter_of(letters, one, other):
    """The letter of a segment; None if it has none. Quarrel if there can be no such segment."""
    if other[2] == one[2]:
        return None
    found = [letter for letter in letters if letter[0] == other[2]]
    if other[2] != one[2] + 1 or not found:
        raise Quarrel(("taken", other[0]))
    return found[0]


def lot_of_taking(up, takings, ticks):
    """The offsets by which a letter, sent at these ticks, comes at a stamp of one of these takings."""
    least, most = up
    stamps = merged([stretch for _, stretch in takings])
    return merged([(tick + least - high, tick + most - low) for low, high in stamps for tick in ticks])


class Past:
    """What logs tell up to the last frame heard; Quarrel where a segment or values cannot be."""

    def __init__(self, setup, logs):
        self.setup = check_setup(setup)
        self.kinds = self.setup[0]
        self.logs = check_logs(self.setup, logs)
        self.frames, self.hearings, self.letters = joined_rows(self.logs)
        if not self.frames:
            raise Refused(logs)
        self.told = [told_spans(self.frames, kind) for kind in range(len(self.kinds))]
        self.need_values()
        self.segments = neighbours(self.kinds, self.frames)
        # By segment the letter that is taken in it, None if none is.
        self.mail = [self.need_segment(one, other) for one, other in self.segments]
        self.takings = [self.takings_of(place) for place in range(len(self.segments))]
        self.last = self.frames[-1]
        self.values_had = None
        self.stamps_had = {}

    def need_values(self):
        for kind, spans in enumerate(self.told):
            paper = span_quarrel(spans)
            if paper is not None:
                raise Quarrel(("values", kind, paper))

    def need_segment(self, one, other):
        letter = letter_of(self.letters, one, other)
        if not comes_about(self.kinds, one, other, None if letter is None else letter[1]):
            raise Quarrel(("segment", one[0], other[0]))
        return letter

    def takings_of(self, place):
        """(count, (low, high)) of the takings of a segment's letter, by count."""
        one, other = self.segments[place]
        letter = self.mail[place]
        return () if letter is None else taking_by_count(self.setup, one, other, letter[1])

    def bindings(self):
        """(word, number, lot) of all that binds the offset."""
        least, most = self.setup[1]
        found = []
        for place, tick in self.hearings:
            number, stamp = self.frames[place][:2]
            found.append(("heard", number, ((tick - stamp - most, tick - stamp - least),)))
        for letter, takings in zip(self.mail, self.takings):
            if letter is not None:
                found.append(("taken", letter[0], lot_of_taking(self.setup[2], takings, letter[2])))
        return tuple(found)

    def common_lot(self):
        """The stretches of all offsets of stories; Quarrel if there are none."""
        lots = tuple([lot for _, _, lot in self.bindings()])
        offsets_left = lots[0]
        for lot in lots[1:]:
            offsets_left = common(offsets_left, lot)
        if not offsets_left:
            raise Quarrel(("offsets", lots))
        return offsets_left

    def taking(self, place, offset):
        """(count of rows ahead, stamp) of some taking of a segment's letter by an offset of the lot."""
        comings = come_stamps(self.setup, offset, self.mail[place][2])
        found = [(count, common(comings, (window,))) for count, window in self.takings[place]]
        return [(count, stamps[0][0]) for count, stamps in found if stamps][0]

    def segment_stamps(self, place, kind, taking):
        """The stamps of the rows of a kind in a segment in which its letter, if it has one, is so taken."""
        one, other = self.segments[place]
        letter = self.mail[place]
        bound = taking if letter is not None and is_free_of(letter[1], kind) else None
        return least_of(chain_between(self.kinds, one, other, kind, bound))

    def rows_by(self, offset):
        """(stamps of taking, by kind the stamps of all rows) up to the last frame, of some story."""
        if offset in self.stamps_had:
            return self.stamps_had[offset]
        takings = [None if letter is None else self.taking(place, offset) for place, letter in enumerate(self.mail)]
        stamps = []
        for kind in range(len(self.kinds)):
            parts = [self.segment_stamps(place, kind, taking) for place, taking in enumerate(takings)]
            stamps.append(tuple([stamp for part in parts for stamp in part]))
        taken = tuple([taking[1] for taking in takings if taking is not None])
        self.stamps_had[offset] = (taken, tuple(stamps))
        return self.stamps_had[offset]

    def values_told(self):
        """By kind the values of the rows up to the last frame, of some story."""
        if self.values_had is None:
            marks = self.last[3]
            self.values_had = [some_rows(spans, mark[0]) for spans, mark in zip(self.told, marks)]
        return self.values_had

    def late_rows(self, kind, stamp):
        """The stamps of the rows of a kind behind the last frame, up to a stamp, if they come as late as they can."""
        gap, pause, _ = self.kinds[kind]
        due = first_steps(gap, pause, self.last[3][kind][2])[1]
        return tuple(range(due, stamp + 1, pause))

    def story(self, offset, taking, behind):
        """Some story with this offset, the letter that is out taken at a stamp (None: not), and such rows behind."""
        taken, stamps = self.rows_by(offset)
        whole = taken if taking is None else (*taken, taking)
        rows = []
        for ahead, more, values in zip(stamps, behind, self.values_told()):
            laid = ahead + more
            rows.append(tuple(zip(laid, values + (0,) * len(more))))
        return offset, whole + (None,) * (len(self.letters) - len(whole)), tuple(rows)


def bindings(setup, logs):
    """(word, number, lot) of all that binds the offset: hearings, then takings."""
    return Past(setup, logs).bindings()


def offsets(setup, logs):
    """The lot of all offsets by which what the logs tell can have been, as stretches."""
    return Past(setup, logs).common_lot()


def past_at(setup, logs, offset):
    """What the logs tell, the offset being one of its lot."""
    past = Past(setup, logs)
    lot = past.common_lot()
    if not is_integer(offset) or not has(lot, offset):
        raise Refused(offset)
    return past


def past_rows(setup, logs, offset):
    """(by letter taken the stamp, by kind the stamps of all rows) up to the last frame, of some story."""
    return past_at(setup, logs, offset).rows_by(offset)


def past_story(setup, logs, offset):
    """Some story at the tick of the last row, with this offset, in which no letter more is taken."""
    past = past_at(setup, logs, offset)
    stamp = last_tick(past.logs) - offset
    behind = [past.late_rows(kind, stamp) for kind in range(len(past.kinds))]
    return past.story(offset, None, behind)
