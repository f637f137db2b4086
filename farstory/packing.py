"""Frames and letters as octets, and back again."""

from farstory.errors import BadFrame, Broken, Refused
from farstory.forms import figures, octets_needed
from farstory.setups import MOST_CARGO, MOST_LAID, MOST_NOTES, check_frame, check_letter, check_setup, shapes_of
from farstory.shapes import shape
from farstory.spans import MOST_VALUE
from farstory.words import is_number, need_number, need_octets

# How many octets tell a number or a stamp, how many rows, how far a value is above the least one.
OF_NUMBER = 4
OF_ROWS = 3
OF_VALUE = 3
OF_NOTE = 2
MOST_NUMBER = 4294967295
FREE = 0
NOTE = 1


def told_up_to(number, bound):
    """The number as so many octets as the bound needs."""
    return figures(number, octets_needed(bound))


def least_sum(many, low, high):
    """The least sum of more than one row whose least and greatest value these are."""
    return (many - 1) * low + high


def room_of_sum(many, low, high):
    """How far such a sum can be above the least one."""
    return (many - 2) * (high - low)


def mark_octets(mark):
    laid, first, last = mark
    octets = figures(laid, OF_ROWS) + told_up_to(first, laid)
    return octets if last is None else octets + figures(last, OF_NUMBER)


def load_octets(shapes, load):
    """The octets of one span of the cargo."""
    kind, (first, many, whole, low, high) = load
    octets = [kind, shapes[kind].index((first, many)), *figures(low + MOST_VALUE, OF_VALUE)]
    if many == 1:
        return octets
    above = told_up_to(whole - least_sum(many, low, high), room_of_sum(many, low, high))
    return octets + figures(high - low, OF_VALUE) + above


def need_short(frame):
    """Raises BadFrame with the first part that has a number or a stamp for which the octets are too few."""
    for at in range(3):
        if frame[at] > MOST_NUMBER:
            raise BadFrame(at)
    if any([mark[2] is not None and mark[2] > MOST_NUMBER for mark in frame[3]]):
        raise BadFrame(3)


def frame_octets(setup, frame):
    """The form of a frame."""
    checked = check_setup(setup)
    whole = check_frame(checked, frame)
    need_short(whole)
    shapes = shapes_of(checked[0], whole[3])
    octets = []
    for number in whole[:3]:
        octets.extend(figures(number, OF_NUMBER))
    for mark in whole[3]:
        octets.extend(mark_octets(mark))
    octets.append(len(whole[4]))
    for load in whole[4]:
        octets.extend(load_octets(shapes, load))
    return tuple(octets)


def frame_length(setup, frame):
    """How many octets the form of a frame has."""
    return len(frame_octets(setup, frame))


def most_length(setup, many):
    """How many octets a frame has at most whose cargo tells so many spans."""
    kinds = check_setup(setup)[0]
    if not is_number(many) or many > MOST_CARGO:
        raise Refused(many)
    # As one span may be told again and again, the longest one can be all of the cargo.
    longest = max([shape(kind[2], 0, MOST_LAID)[0][1] for kind in kinds])
    load = 2 + 2 * OF_VALUE + octets_needed(room_of_sum(longest, -MOST_VALUE, MOST_VALUE))
    mark = OF_ROWS + octets_needed(MOST_LAID) + OF_NUMBER
    return 3 * OF_NUMBER + len(kinds) * mark + 1 + many * load


def letter_octets(setup, letter):
    """The form of a letter."""
    number, deed = check_letter(setup, letter)
    if number > MOST_NUMBER:
        raise Refused(letter)
    octets = figures(number, OF_NUMBER)
    if deed[0] == "free":
        return (*octets, FREE, deed[1], *figures(deed[2], OF_ROWS))
    return (*octets, NOTE, *figures(deed[1], OF_NOTE))


class Cursor:
    """Reads numbers, octet by octet; it tells the first octet with which none can be gone on with."""

    def __init__(self, octets, at):
        self.octets = octets
        self.place = at

    def next_octet(self):
        if self.place >= len(self.octets):
            raise Broken(len(self.octets))
        return self.octets[self.place]

    def read_number(self, least, most, many):
        """The number from least to most that so many octets tell."""
        number = 0
        for left in reversed(range(many)):
            number = number * 256 + self.next_octet()
            # Whatever is still to come, the number is from here up to there.
            low = number << (8 * left)
            high = ((number + 1) << (8 * left)) - 1
            if low > most or high < least:
                raise Broken(self.place)
            self.place += 1
        return number

    def read_one_of(self, numbers):
        """The one of these numbers that one octet tells."""
        octet = self.next_octet()
        if octet not in numbers:
            raise Broken(self.place)
        self.place += 1
        return octet


def cursor_at(octets, at):
    checked = need_octets(octets)
    need_number(at)
    return Cursor(checked, at)


def read_mark(cursor):
    laid = cursor.read_number(0, MOST_LAID, OF_ROWS)
    first = cursor.read_number(0, laid, octets_needed(laid))
    last = None if laid == 0 else cursor.read_number(0, MOST_NUMBER, OF_NUMBER)
    return laid, first, last


def read_load(cursor, shapes):
    """One span of the cargo: (kind, span)."""
    kind = cursor.read_one_of([at for at, some in enumerate(shapes) if some])
    first, many = shapes[kind][cursor.read_number(0, len(shapes[kind]) - 1, 1)]
    low = cursor.read_number(0, 2 * MOST_VALUE, OF_VALUE) - MOST_VALUE
    if many == 1:
        return kind, (first, many, low, low, low)
    high = low + cursor.read_number(0, MOST_VALUE - low, OF_VALUE)
    room = room_of_sum(many, low, high)
    whole = least_sum(many, low, high) + cursor.read_number(0, room, octets_needed(room))
    return kind, (first, many, whole, low, high)


def frame_at(setup, octets, at):
    """(the frame whose form begins at this place, the place behind it)."""
    kinds = check_setup(setup)[0]
    cursor = cursor_at(octets, at)
    numbers = [cursor.read_number(0, MOST_NUMBER, OF_NUMBER) for _ in range(3)]
    marks = tuple([read_mark(cursor) for _ in kinds])
    shapes = shapes_of(kinds, marks)
    # Where nothing is aboard the cargo tells nothing.
    many = cursor.read_number(0, MOST_CARGO if any(shapes) else 0, 1)
    cargo = tuple([read_load(cursor, shapes) for _ in range(many)])
    return (*numbers, marks, cargo), cursor.place


def letter_at(setup, octets, at):
    """(the letter whose form begins at this place, the place behind it)."""
    kinds = check_setup(setup)[0]
    cursor = cursor_at(octets, at)
    number = cursor.read_number(1, MOST_NUMBER, OF_NUMBER)
    if cursor.read_one_of((FREE, NOTE)) == NOTE:
        deed = ("note", cursor.read_number(0, MOST_NOTES - 1, OF_NOTE))
    else:
        kind = cursor.read_number(0, len(kinds) - 1, 1)
        deed = ("free", kind, cursor.read_number(0, MOST_LAID, OF_ROWS))
    return (number, deed), cursor.place
