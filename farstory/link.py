"""The link: when frames can be heard and letters can come, and what of them is on the way."""

from farstory.errors import NoLetter, Refused
from farstory.setups import check_frame, check_letter, check_setup
from farstory.stretches import merged
from farstory.words import is_integer, is_number, is_of_parts, is_sequence, need_integer, need_number


def are_ticks(value):
    return is_sequence(value) and len(value) > 0 and all(is_integer(tick) for tick in value)


def need_ticks(value):
    if not are_ticks(value):
        raise Refused(value)


def is_hearing(value):
    return is_of_parts(value, 2) and is_number(value[0]) and is_integer(value[1])


def are_hearings(value):
    return is_sequence(value) and len(value) > 0 and all(is_hearing(hearing) for hearing in value)


def heard_ticks(setup, offset, stamp):
    """The least and the greatest tick at which a frame of this stamp can be heard."""
    least, most = check_setup(setup)[1]
    need_integer(offset)
    need_number(stamp)
    return stamp + offset + least, stamp + offset + most


def come_stamps(setup, offset, ticks):
    """As stretches, all stamps at which a letter can come of which copies were sent at these ticks."""
    least, most = check_setup(setup)[2]
    need_integer(offset)
    need_ticks(ticks)
    ways = [(max(tick + least - offset, 0), tick + most - offset) for tick in ticks]
    # What would come ahead of stamp 0 finds no probe.
    return merged([way for way in ways if way[0] <= way[1]])


def echo(setup):
    """How many ticks, at the least, lie between sending a letter and hearing that it was taken."""
    _, down, up = check_setup(setup)
    return up[0] + down[0]


def offsets_heard(setup, hearings):
    """The least and the greatest offset with which all hearings (stamp, tick) can be; None if there is none."""
    least, most = check_setup(setup)[1]
    if not are_hearings(hearings):
        raise Refused(hearings)
    low = max([tick - stamp - most for stamp, tick in hearings])
    high = min([tick - stamp - least for stamp, tick in hearings])
    return (low, high) if low <= high else None


def offsets_come(setup, stamp, ticks):
    """As stretches, the offsets with which a letter, sent at these ticks, can come at this stamp."""
    least, most = check_setup(setup)[2]
    need_number(stamp)
    need_ticks(ticks)
    return merged([(tick + least - stamp, tick + most - stamp) for tick in ticks])


class Link:
    """All that was sent, and when: nothing else is heard or comes."""

    def __init__(self, setup, offset):
        self.setup = check_setup(setup)
        need_integer(offset)
        self.offset = offset
        self.frames = ()
        self.letters = ()

    def down(self, frame):
        """Sends a frame at its stamp; the tick."""
        sent = check_frame(self.setup, frame)
        if sent[0] != len(self.frames):
            raise Refused(frame)
        if self.frames and sent[1] <= self.frames[-1][1][1]:
            raise Refused(frame)
        tick = sent[1] + self.offset
        self.frames = (*self.frames, (tick, sent))
        return tick

    def up(self, tick, letter):
        """Sends a copy of a letter; how many copies were sent, of all letters."""
        need_integer(tick)
        if self.letters and tick < self.letters[-1][0]:
            raise Refused(tick)
        sent = check_letter(self.setup, letter)
        if any([other[0] == sent[0] and other != sent for _, other in self.letters]):
            raise Refused(letter)
        self.letters = (*self.letters, (tick, sent))
        return len(self.letters)

    def can_hear(self, tick):
        """The frames, by number, that can be heard at a tick."""
        need_integer(tick)
        least, most = self.setup[1]
        return tuple([frame for sent, frame in self.frames if least <= tick - sent <= most])

    def can_come(self, stamp):
        """The letters, ascending, that can come at a stamp."""
        need_number(stamp)
        least, most = self.setup[2]
        tick = stamp + self.offset
        return tuple(sorted({letter for sent, letter in self.letters if least <= tick - sent <= most}))

    def hear(self, tick, number):
        """The frame of this number, if it can be heard at this tick."""
        for frame in self.can_hear(tick):
            if is_number(number) and frame[0] == number:
                return frame
        raise Refused(number)

    def come(self, stamp, number):
        """The letter of this number, if it can come at this stamp."""
        for letter in self.can_come(stamp):
            if is_number(number) and letter[0] == number:
                return letter
        raise NoLetter(number)

    def is_over(self, tick):
        """Whether of nothing that was sent a tick of its way lies behind this one."""
        need_integer(tick)
        down, up = self.setup[1:]
        heard = all([sent + down[1] <= tick for sent, _ in self.frames])
        return heard and all([sent + up[1] <= tick for sent, _ in self.letters])
