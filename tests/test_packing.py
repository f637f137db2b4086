"""Points 27 to 29: frames and letters as octets."""

import itertools
import random

from farstory.errors import BadFrame, BadOctets, BadSetup, Broken, Refused
from farstory.packing import frame_at, frame_length, frame_octets, letter_at, letter_octets, most_length
from farstory.setups import check_frame, check_letter
from farstory.shapes import shape
from tests.helping import NO_NUMBERS, NO_SEQUENCES, ODD, Case, lists

SETUP = (((1, 4, 2), (3, 9, 2)), (2, 5), (1, 1))
FRAME = (0, 4, 0, ((3, 0, 4), (1, 0, 3)), ((0, (0, 2, 12, 5, 7)), (1, (0, 1, 40, 40, 40))))
NEW = (0, 0, 0, ((0, 0, None), (0, 0, None)), ())
FAR = 10 ** 6
END = 256 ** 4
BROAD = (((1, 1000, 8),) * 5 + ((1, 1000, 2),), (0, 10000), (10000, 10000))


def kinds_of(*keeps):
    return tuple((1, 4, keep) for keep in keeps), (2, 5), (1, 1)


def needs(bound):
    """How many octets a bound needs."""
    many = 0
    while bound >= 256 ** many:
        many += 1
    return many


def fields(setup, frame):
    """Word by word as point 27 has it: (number, how many octets, all that can stand there as a range or set)."""
    number, stamp, taken, marks, cargo = frame
    out = [(what, 4, range(END)) for what in (number, stamp, taken)]
    shapes = []
    for (_, _, keep), (laid, first, last) in zip(setup[0], marks):
        shapes.append(shape(keep, first, laid))
        out.append((laid, 3, range(100001)))
        out.append((first, needs(laid), range(laid + 1)))
        if laid > 0:
            out.append((last, 4, range(END)))
    full = {kind for kind, some in enumerate(shapes) if some}
    out.append((len(cargo), 1, range(101 if full else 1)))
    for kind, (first, many, whole, low, high) in cargo:
        out.append((kind, 1, full))
        out.append((shapes[kind].index((first, many)), 1, range(len(shapes[kind]))))
        out.append((low + FAR, 3, range(2 * FAR + 1)))
        if many > 1:
            most = (many - 2) * (high - low)
            out.append((high - low, 3, range(FAR - low + 1)))
            out.append((whole - (many - 1) * low - high, needs(most), range(most + 1)))
    return out


def letter_fields(setup, letter):
    number, deed = letter
    out = [(number, 4, range(1, END)), (0 if deed[0] == "free" else 1, 1, range(2))]
    if deed[0] == "free":
        return out + [(deed[1], 1, range(len(setup[0]))), (deed[2], 3, range(100001))]
    return out + [(deed[1], 2, range(1000))]


def octets_of(told):
    return tuple(octet for number, many, _ in told for octet in number.to_bytes(many, "big"))


def next_octets(told, place):
    """All octets that can stand at this place, behind those that stand ahead of it."""
    begin = 0
    for number, many, lets in told:
        if place < begin + many:
            ahead = number.to_bytes(many, "big")[:place - begin]
            found = set()
            for octet in range(256):
                low = int.from_bytes(ahead + bytes([octet]) + bytes(many - len(ahead) - 1), "big")
                high = low + 256 ** (many - len(ahead) - 1) - 1
                if isinstance(lets, set):
                    if octet in lets:
                        found.add(octet)
                elif max(low, lets[0]) <= min(high, lets[-1]):
                    found.add(octet)
            return found
        begin += many
    return set()


def small_frames(setup, most):
    """Frames of few rows and small values; their cargo is each span that can stand in them, or two."""
    marks = []
    for _ in setup[0]:
        marks.append([(laid, first, 0 if laid else None) for laid in range(most + 1) for first in range(laid + 1)])
    for mark in itertools.product(*marks):
        loads = []
        for kind, (laid, first, _) in enumerate(mark):
            for start, many in shape(setup[0][kind][2], first, laid):
                for low, high in ((0, 0), (0, 1), (-1, 1), (5, 8)):
                    if many > 1 or low == high:
                        least = (many - 1) * low + high
                        for whole in range(least, least + (many - 2) * (high - low) + 1 if many > 1 else least + 1):
                            loads.append((kind, (start, many, whole, low, high)))
        yield 1, 2, 3, mark, ()
        for load in loads:
            yield 1, 2, 0, mark, (load,)
        if loads:
            yield 0, 9, 1, mark, (loads[-1], loads[0], loads[-1])


class Writing(Case):
    def test_as_point_27_has_it(self):
        for setup in (kinds_of(2), kinds_of(3), kinds_of(2, 4)):
            for frame in small_frames(setup, 5 if len(setup[0]) == 1 else 3):
                octets = frame_octets(setup, frame)
                self.same(octets, octets_of(fields(setup, frame)))
                self.same(frame_length(setup, frame), len(octets))

    def test_told_up_to(self):
        # The first row aboard needs as many octets as the number of rows laid does.
        for laid, many in ((1, 1), (255, 1), (256, 2), (65535, 2), (65536, 3), (100000, 3)):
            frame = (0, 9, 0, ((laid, laid, 9), (0, 0, None)), ())
            self.same(frame_octets(SETUP, frame)[12:15 + many], tuple(
                laid.to_bytes(3, "big") + laid.to_bytes(many, "big")))
            self.same(frame_length(SETUP, frame), 12 + 3 + many + 4 + 3 + 1)
        self.same(frame_octets(SETUP, NEW), (0,) * 19)

    def test_sums(self):
        # Of 4 values from -1 to 128 the sum is 0 to 258 above the least: two octets.
        marks = ((12, 0, 20), (0, 0, None))
        self.same(shape(2, 0, 12)[:2], ((0, 4), (4, 4)))
        for whole, told in ((125, (0, 0)), (126, (0, 1)), (383, (1, 2))):
            frame = (0, 20, 0, marks, ((0, (4, 4, whole, -1, 128)),))
            self.same(frame_octets(SETUP, frame)[-8 - 2:], (0, 1, 15, 66, 63, 0, 0, 129) + told)
        # Of two values, or like ones, the sum is told by the least and the greatest.
        frame = (0, 20, 0, ((3, 0, 4), (0, 0, None)), ((0, (0, 2, 7, -1, 8)),))
        self.same(frame_octets(SETUP, frame)[-8:], (0, 0, 15, 66, 63, 0, 0, 9))
        frame = (0, 20, 0, marks, ((0, (4, 4, 28, 7, 7)),))
        self.same(frame_octets(SETUP, frame)[-8:], (0, 1, 15, 66, 71, 0, 0, 0))

    def test_greatest_and_least(self):
        last = ((100000, 0, END - 1), (100000, 100000, 0))
        there = shape(2, 0, 100000)
        for low, high in ((-FAR, FAR), (-FAR, -FAR), (FAR, FAR)):
            first, many = there[0]
            for whole in {(many - 1) * low + high, low + (many - 1) * high}:
                frame = (END - 1, END - 1, END - 1, last, ((0, (first, many, whole, low, high)),))
                octets = frame_octets(SETUP, frame)
                self.same(octets, octets_of(fields(SETUP, frame)))
                self.same(frame_at(SETUP, octets, 0), (frame, len(octets)))

    def test_numbers_too_great(self):
        for at in range(3):
            frame = FRAME[:at] + (END,) + FRAME[at + 1:]
            for function in (frame_octets, frame_length):
                self.fails(BadFrame, at, function, SETUP, frame)
                self.fails(BadFrame, at, function, SETUP, FRAME[:at] + (END,) * (3 - at) + (
                    ((1, 0, END), (0, 0, None)), ()))
        for marks in (((1, 0, END), (1, 0, 3)), ((1, 0, 3), (1, 0, END + 9))):
            self.fails(BadFrame, 3, frame_octets, SETUP, FRAME[:3] + (marks, ()))
        self.same(frame_length(SETUP, (END - 1,) * 3 + (((1, 0, END - 1), (1, 0, 3)), ())), 29)

    def test_no_frames(self):
        for value, at in tuple((value, -1) for value in NO_SEQUENCES) + (
            ((), -1), (FRAME[:4], -1), ((-1,) + FRAME[1:], 0), ((0, True) + FRAME[2:], 1), ((0, 4, None) + FRAME[3:], 2),
            (FRAME[:3] + (None, ()), 3), (FRAME[:4] + (None,), 4), (FRAME[:4] + (FRAME[4] * 51,), 4),
            # What is no frame at all is told ahead of numbers too great.
            ((END,) + FRAME[1:4] + (None,), 4),
        ):
            for function in (frame_octets, frame_length):
                self.fails(BadFrame, at, function, SETUP, value)
                self.fails(BadSetup, -1, function, None, value)

    def test_lists(self):
        self.same(frame_octets(lists(SETUP), lists(FRAME)), frame_octets(SETUP, FRAME))
        self.same(letter_octets(lists(SETUP), [1, ["free", 0, 2]]), (0, 0, 0, 1, 0, 0, 0, 0, 2))


class MostLength(Case):
    def longest(self, setup, many):
        """Some frame of as many octets as there can be."""
        marks = tuple((100000, 0, 0) for _ in setup[0])
        first, size = shape(setup[0][-1][2], 0, 100000)[0]
        span = (first, size, (size - 1) * -FAR + FAR, -FAR, FAR)
        return 0, 0, 0, marks, ((len(setup[0]) - 1, span),) * many

    def test_there_is_one(self):
        for setup in (SETUP, kinds_of(2), kinds_of(8), kinds_of(3, 5), BROAD):
            for many in (0, 1, 2, 99, 100):
                frame = self.longest(setup, many)
                self.same(most_length(setup, many), frame_length(setup, frame))
        self.same(most_length(SETUP, 1), 46)
        self.same(most_length(lists(SETUP), 0), 33)
        self.same(most_length(BROAD, 100), 12 + 60 + 1 + 1300)

    def test_no_frame_has_more(self):
        chance = random.Random(27)
        for _ in range(300):
            setup = kinds_of(*[chance.randrange(2, 9) for _ in range(chance.randrange(1, 4))])
            frame = any_frame(chance, setup)
            self.assertLessEqual(frame_length(setup, frame), most_length(setup, len(frame[4])))

    def test_refused(self):
        for value in NO_NUMBERS + (101, 256 ** 201):
            self.refuses(value, most_length, SETUP, value)
            self.fails(BadSetup, -1, most_length, (), value)


def any_frame(chance, setup):
    """Some frame, far and near."""
    marks = []
    for _ in setup[0]:
        laid = chance.choice((0, 1, 3, 40, 300, 70000, 100000))
        first = chance.choice((0, laid // 2, max(0, laid - 9), laid))
        marks.append((laid, first, chance.randrange(END) if laid else None))
    loads = []
    for kind, (laid, first, _) in enumerate(marks):
        for start, many in shape(setup[0][kind][2], first, laid):
            low = chance.choice((-FAR, 0, chance.randrange(-FAR, FAR + 1)))
            high = low if many == 1 else chance.choice((low, FAR, min(low + 300, FAR)))
            room = (many - 2) * (high - low) if many > 1 else 0
            whole = low if many == 1 else (many - 1) * low + high + chance.choice((0, room, chance.randrange(room + 1)))
            loads.append((kind, (start, many, whole, low, high)))
    cargo = tuple(chance.choice(loads) for _ in range(chance.choice((0, 1, 2, 5, 100)))) if loads else ()
    return chance.randrange(END), chance.randrange(END), chance.randrange(END), tuple(marks), cargo


class Letters(Case):
    letters = (
        (1, ("free", 0, 0)), (1, ("free", 1, 100000)), (END - 1, ("free", 0, 65536)), (256, ("note", 0)),
        (65536, ("note", 255)), (7, ("note", 256)), (7, ("note", 999)),
    )

    def test_as_point_28_has_it(self):
        for letter in self.letters:
            octets = letter_octets(SETUP, letter)
            self.same(octets, octets_of(letter_fields(SETUP, letter)))
            self.same(letter_at(SETUP, octets, 0), (letter, len(octets)))
        self.same(letter_octets(SETUP, (3, ("note", 999))), (0, 0, 0, 3, 1, 3, 231))

    def test_kinds_of_the_setup(self):
        for many in range(1, 7):
            setup = kinds_of(*range(2, 2 + many))
            for kind in range(8):
                octets = (0, 0, 0, 9, 0, kind, 0, 0, 7)
                if kind < many:
                    self.same(letter_at(setup, octets, 0), ((9, ("free", kind, 7)), 9))
                else:
                    self.fails(Broken, 5, letter_at, setup, octets, 0)

    def test_refused(self):
        for value in ODD + ((END, ("note", 9)), [END, ["note", 9]], (0, ("note", 9)), (1, ("free", 2, 0)), (1, ("note", 1000))):
            self.refuses(value, letter_octets, SETUP, value)
            self.fails(BadSetup, 0, letter_octets, ((), None, None), value)

    def test_every_octet_bent(self):
        for letter in self.letters:
            told = letter_fields(SETUP, letter)
            octets = letter_octets(SETUP, letter)
            for place in range(len(octets)):
                lets = next_octets(told, place)
                for octet in range(256):
                    self.bend(octets, place, octet, lets)

    def bend(self, octets, place, octet, lets):
        bent = octets[:place] + (octet,) + octets[place + 1:]
        if octet not in lets:
            self.fails(Broken, place, letter_at, SETUP, bent, 0)
            return
        try:
            letter, behind = letter_at(SETUP, bent, 0)
        except Broken as error:
            self.assertGreater(error.at, place)
        else:
            self.same(check_letter(SETUP, letter), letter)
            self.same(letter_octets(SETUP, letter), bent[:behind])


class Reading(Case):
    def frames(self):
        chance = random.Random(29)
        for setup in (SETUP, kinds_of(8), kinds_of(3, 5, 2)):
            for _ in range(25):
                frame = any_frame(chance, setup)
                yield setup, frame[:4] + (frame[4][:5],)
        for frame in (FRAME, NEW, FRAME[:4] + (FRAME[4] * 2,)):
            yield SETUP, frame

    def test_small_frames_are_read(self):
        for setup in (kinds_of(2), kinds_of(3), kinds_of(2, 4)):
            forms = {}
            for frame in small_frames(setup, 5 if len(setup[0]) == 1 else 3):
                octets = frame_octets(setup, frame)
                self.same(frame_at(setup, octets, 0), (frame, len(octets)))
                self.same(frame_at(setup, (7,) + octets + (9, 0), 1), (frame, 1 + len(octets)))
                self.assertEqual(forms.setdefault(octets, frame), frame)
            # No form is the beginning of another one.
            told = sorted(forms)
            for one, other in zip(told, told[1:]):
                self.assertNotEqual(other[:len(one)], one)

    def test_whatever_stands_ahead_and_behind(self):
        for setup, frame in self.frames():
            octets = frame_octets(setup, frame)
            for ahead, behind in (((), ()), ((255,), octets), (octets, (0,) * 30), ((0,) * 7, (255, 255))):
                found = frame_at(setup, list(ahead + octets + behind), len(ahead))
                self.same(found, (frame, len(ahead + octets)))
        for letter in Letters.letters:
            octets = letter_octets(SETUP, letter)
            self.same(letter_at(SETUP, (0, 9) + octets + (0, 0), 2), (letter, 2 + len(octets)))

    def test_cut_anywhere(self):
        for setup, frame in self.frames():
            octets = frame_octets(setup, frame)
            for cut in range(len(octets)):
                self.fails(Broken, cut, frame_at, setup, octets[:cut], 0)
                self.fails(Broken, 2 + cut, frame_at, setup, (9, 9) + octets[:cut], 2)
        for letter in Letters.letters:
            octets = letter_octets(SETUP, letter)
            for cut in range(len(octets)):
                self.fails(Broken, 3 + cut, letter_at, SETUP, (0, 1, 2) + octets[:cut], 3)

    def test_behind_them_all(self):
        for function in (frame_at, letter_at):
            for octets in ((), (0,), (255,) * 5):
                for at in (len(octets), len(octets) + 1, 10 ** 9, 256 ** 201):
                    self.fails(Broken, len(octets), function, SETUP, octets, at)

    def test_one_octet_bent(self):
        chance = random.Random(30)
        for setup, frame in self.frames():
            told = fields(setup, frame)
            octets = frame_octets(setup, frame)
            for place in range(len(octets)):
                lets = next_octets(told, place)
                edges = {octet + way for octet in lets for way in (-1, 1)} | {0, 1, 255}
                odd = [octet for octet in edges if 0 <= octet < 256 and (octet not in lets or octet - 1 not in lets)]
                for octet in odd + [chance.randrange(256)]:
                    self.bend(setup, octets, place, octet, lets)

    def bend(self, setup, octets, place, octet, lets):
        bent = octets[:place] + (octet,) + octets[place + 1:]
        if octet not in lets:
            self.fails(Broken, place + 1, frame_at, setup, (8,) + bent, 1)
            return
        try:
            frame, behind = frame_at(setup, bent, 0)
        except Broken as error:
            self.assertGreater(error.at, place)
        else:
            self.same(check_frame(setup, frame), frame)
            self.same(frame_octets(setup, frame), bent[:behind])

    def test_what_is_broken_can_be_gone_on_with(self):
        # From what stands ahead of a broken place some way leads on to a whole form.
        chance = random.Random(31)
        for _ in range(150):
            octets = tuple(chance.choice((0, 0, 0, 1, 2, 3)) for _ in range(chance.randrange(40)))
            try:
                frame, behind = frame_at(SETUP, octets, 0)
            except Broken as error:
                octets = octets[:error.at]
                while True:
                    try:
                        frame, behind = frame_at(SETUP, octets, 0)
                        break
                    except Broken as more:
                        self.assertEqual(more.at, len(octets))
                    octets += (next(self.that_stand(octets)),)
            self.same(frame_octets(SETUP, frame), octets[:behind])

    def that_stand(self, octets):
        """The octets that are not told as broken behind these."""
        for octet in range(256):
            try:
                frame_at(SETUP, octets + (octet,), 0)
                yield octet
            except Broken as error:
                if error.at > len(octets):
                    yield octet

    def test_nothing_aboard_has_no_cargo(self):
        octets = frame_octets(SETUP, (0, 9, 0, ((5, 5, 9), (0, 0, None)), ()))
        self.fails(Broken, len(octets) - 1, frame_at, SETUP, octets[:-1] + (1,), 0)
        octets = frame_octets(SETUP, (0, 9, 0, ((5, 5, 9), (1, 0, 9)), ()))
        # A span is told of the kind that has one.
        self.fails(Broken, len(octets), frame_at, SETUP, octets[:-1] + (1,), 0)
        self.fails(Broken, len(octets), frame_at, SETUP, octets[:-1] + (1, 0), 0)
        self.fails(Broken, len(octets) + 1, frame_at, SETUP, octets[:-1] + (1, 1), 0)
        self.fails(Broken, len(octets) - 1, frame_at, SETUP, octets[:-1] + (101,), 0)

    def test_errors_in_their_order(self):
        for function in (frame_at, letter_at):
            for value in NO_SEQUENCES:
                self.fails(BadOctets, -1, function, SETUP, value, -1)
            for value in NO_NUMBERS + (256,):
                self.fails(BadOctets, 1, function, SETUP, (0, value), None)
            for value in NO_NUMBERS:
                self.refuses(value, function, SETUP, (0,), value)
                self.refuses(value, function, SETUP, (), value)
            self.fails(BadSetup, -1, function, None, None, None)
            self.fails(BadSetup, 2, function, (SETUP[0], (0, 0), (1, 0)), (256,), -1)

    def test_four_thousand_octets(self):
        frame = FRAME[:3] + (((100000, 0, 9), (100000, 0, 9)), ((0, (0, 32768, -32768 * FAR + 2 * FAR, -FAR, FAR)),) * 100)
        octets = frame_octets(SETUP, frame)
        self.assertEqual(len(octets), most_length(SETUP, 100))
        ahead = (255,) * (4000 - len(octets))
        self.same(frame_at(SETUP, ahead + octets, len(ahead)), (frame, 4000))
        self.fails(Broken, 4001, frame_at, SETUP, ahead + octets + (9,), 4000)
