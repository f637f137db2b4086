"""Points 23 and 24: setups, deeds, letters, marks, frames."""

from farstory.errors import BadFrame, BadSetup
from farstory.setups import check_deed, check_frame, check_letter, check_setup
from farstory.shapes import shape
from tests.helping import NO_NUMBERS, NO_SEQUENCES, ODD, Case, lists

KIND = (2, 3, 2)
SETUP = (((1, 4, 2), (3, 9, 3)), (2, 5), (1, 1))
WHOLE = (((1, 1, 2),), (0, 0), (0, 0))
BROAD = (((1, 1000, 8),) * 6, (0, 10000), (10000, 10000))
NO_KINDS = (
    (), [], (KIND,) * 7, KIND, (None,), "abc", 0, None, ((2, 3),), ((2, 3, 2, 2),), ((0, 3, 2),), ((4, 3, 2),),
    ((1, 1001, 2),), ((True, 3, 2),), ((1, True, 2),), ((2, 3, 1),), ((2, 3, 9),), ((2, 3, True),), ((2, 3, None),),
    (("2", 3, 2),), ((2, None, 2),), (KIND, KIND, None), (KIND, (2, 3, 1)), (KIND, "abc"),
)
NO_WAYS = NO_SEQUENCES + (
    (), (1,), (1, 2, 3), (2, 1), (0, 10001), (10001, 10001), (-1, 1), (True, 1), (0, True), (None, 1), (0, None),
    ("0", "1"), [1, 0], ((0, 1),),
)
MARKS = ((3, 0, 4), (1, 0, 3))
CARGO = ((0, (0, 2, 12, 5, 7)), (1, (0, 1, 40, 40, 40)))
FRAME = (0, 4, 0, MARKS, CARGO)


def with_part(at, value, whole=FRAME):
    return whole[:at] + (value,) + whole[at + 1:]


class Setups(Case):
    def test_setups(self):
        for setup in (SETUP, WHOLE, BROAD, (((1000, 1000, 5),), (7, 7), (0, 10000))):
            self.same(check_setup(setup), setup)
            self.same(check_setup(lists(setup)), setup)

    def test_no_three_parts(self):
        for value in NO_SEQUENCES + ((), (0,), SETUP[:2], SETUP + ((0, 0),), [], "abc"):
            self.fails(BadSetup, -1, check_setup, value)

    def test_first_part_that_is_none(self):
        for value in NO_KINDS:
            self.fails(BadSetup, 0, check_setup, (value, (0, 0), (0, 0)))
            self.fails(BadSetup, 0, check_setup, [value, None, None])
        for value in NO_WAYS:
            self.fails(BadSetup, 1, check_setup, ((KIND,), value, (0, 0)))
            self.fails(BadSetup, 1, check_setup, ((KIND,), value, None))
            self.fails(BadSetup, 2, check_setup, ((KIND,), (0, 0), value))

    def test_ahead_of_all_else(self):
        for value, at in ((None, -1), (SETUP[:2], -1), (((), (0, 0), (0, 0)), 0), (((KIND,), None, None), 1),
                          (((KIND,), (0, 0), (1, 0)), 2)):
            for function in (check_deed, check_letter, check_frame):
                self.fails(BadSetup, at, function, value, None)
                self.fails(BadSetup, at, function, value, (1, ("note", 1)))


class Letters(Case):
    deeds = (
        ("free", 0, 0), ("free", 1, 100000), ("free", 0, 7), ("note", 0), ("note", 999),
    )
    no_deeds = ODD + (
        ("free",), ("free", 0), ("free", 0, 0, 0), ("free", 2, 0), ("free", -1, 0), ("free", True, 0), ("free", None, 0),
        ("free", 0, 100001), ("free", 0, -1), ("free", 0, True), ("free", 0, None), ("free", 0, "0"), ("Free", 0, 0),
        ("note",), ("note", 1000), ("note", -1), ("note", True), ("note", None), ("note", "1"), ("note", 1, 1),
        (None, 1), (0, 0, 0), ("", 1), ("free", (0,), 0), (("note",), 1), "note1", ("note", 0, 0), ("free", "0", 0),
    )

    def test_deeds(self):
        for deed in self.deeds:
            self.same(check_deed(SETUP, deed), deed)
            self.same(check_deed(lists(SETUP), list(deed)), deed)
        self.same(check_deed(BROAD, ("free", 5, 3)), ("free", 5, 3))
        self.refuses(("free", 6, 3), check_deed, BROAD, ("free", 6, 3))
        self.refuses(("free", 1, 3), check_deed, WHOLE, ("free", 1, 3))

    def test_no_deeds(self):
        for value in self.no_deeds:
            self.refuses(value, check_deed, SETUP, value)

    def test_letters(self):
        for deed in self.deeds:
            for number in (1, 2, 10 ** 9):
                self.same(check_letter(SETUP, (number, deed)), (number, deed))
                self.same(check_letter(SETUP, [number, list(deed)]), (number, deed))
        self.same(check_letter(BROAD, (1, ("free", 5, 3))), (1, ("free", 5, 3)))
        self.refuses((1, ("free", 6, 3)), check_letter, BROAD, (1, ("free", 6, 3)))
        self.refuses((1, ("free", 1, 3)), check_letter, WHOLE, (1, ("free", 1, 3)))

    def test_no_letters(self):
        note = ("note", 9)
        for value in ODD + (
            (1,), (1, note, 0), note, [note, 1], (1, "note"), ((1, note),),
        ) + tuple((number, note) for number in NO_NUMBERS + (0,)) + tuple((1, deed) for deed in self.no_deeds):
            self.refuses(value, check_letter, SETUP, value)


class Frames(Case):
    def test_frames(self):
        last = (10 ** 9, 10 ** 9, 10 ** 9, ((100000, 0, 10 ** 9), (100000, 100000, 0)), ())
        new = (0, 0, 0, ((0, 0, None), (0, 0, None)), ())
        for frame in (FRAME, last, new, with_part(4, CARGO[::-1]), with_part(4, CARGO * 50), with_part(4, ())):
            self.same(check_frame(SETUP, frame), frame)
            self.same(check_frame(lists(SETUP), lists(frame)), frame)

    def test_no_five_parts(self):
        for value in NO_SEQUENCES + ((), (0, 0), FRAME[:4], FRAME + ((),), "abcde"):
            self.fails(BadFrame, -1, check_frame, SETUP, value)

    def test_first_part_that_is_none(self):
        for at in range(3):
            for value in NO_NUMBERS:
                self.fails(BadFrame, at, check_frame, SETUP, with_part(at, value))
                self.fails(BadFrame, at, check_frame, SETUP, FRAME[:at] + (value,) * (5 - at))
            self.same(check_frame(SETUP, with_part(at, 256 ** 5))[at], 256 ** 5)

    def test_marks(self):
        good = (1, 0, 3)
        for value in ODD + (
            MARKS[:1], MARKS + (good,), "ab", (good, None), (good, (1, 0)), (good, (1, 0, 3, 3)), (good, (0, 0, 3)),
            (good, (1, 0, None)), (good, (1, 2, 3)), (good, (0, 1, None)), (good, (100001, 0, 3)), (good, (-1, 0, 3)),
            (good, (True, 0, 3)), (good, (1, False, 3)), (good, (1, 0, True)), (good, (1, -1, 3)), (good, (1, 0, -1)),
            (good, (1, None, 3)), (good, (None, 0, 3)), (good, ("1", 0, 3)), (good, (1, "0", 3)), (good, (1, 0, "3")),
            (good, (False, 0, None)), (good, "103"), ((0, 0, 3), good), ((1, 2, 3), good),
        ):
            self.fails(BadFrame, 3, check_frame, SETUP, (0, 4, 0, value, ()))
            self.fails(BadFrame, 3, check_frame, SETUP, (0, 4, 0, value, None))
        for marks in ((good, (1, 1, 3)), (good, (0, 0, None)), ((100000, 5, 0), good)):
            self.same(check_frame(SETUP, (0, 4, 0, marks, ()))[3], marks)

    def test_cargo(self):
        for value in NO_SEQUENCES + (
            CARGO * 50 + CARGO[:1], (None,), "a", ((0,),), (CARGO[0] + (0,),), ((2, CARGO[0][1]),), ((-1, CARGO[0][1]),),
            ((False, CARGO[0][1]),), ((None, CARGO[0][1]),), (("0", CARGO[0][1]),), ((0, None),), ((0, ()),), ((0, (0, 2)),),
            ((0, (0, 2, 12, 5, 8)),), ((0, (0, 2, 12, 5, True)),), ((0, (False, 2, 12, 5, 7)),), ((0, (0, 1, 5, 5, 5)),),
            ((0, (1, 1, 5, 5, 5)),), ((0, (3, 1, 5, 5, 5)),), ((1, (0, 2, 12, 5, 7)),), ((0, (0, 4, 20, 5, 5)),),
            (CARGO[0], None), CARGO[0], CARGO + ((1, (1, 1, 5, 5, 5)),),
        ):
            self.fails(BadFrame, 4, check_frame, SETUP, with_part(4, value))

    def test_spans_of_the_shape(self):
        for keep in range(2, 9):
            setup = (((1, 4, 2), (3, 9, keep)), (2, 5), (1, 1))
            for first, laid in ((0, 1), (0, 30), (11, 30), (29, 30), (30, 30), (0, 0)):
                marks = ((0, 0, None), (laid, first, 99 if laid else None))
                there = shape(keep, first, laid)
                for start in range(31):
                    for many in (1, 2, 4, 8, 16):
                        frame = (0, 99, 0, marks, ((1, (start, many, 0, 0, 0)),))
                        if (start, many) in there:
                            self.same(check_frame(setup, frame), frame)
                        else:
                            self.fails(BadFrame, 4, check_frame, setup, frame)

    def test_far_rows(self):
        marks = ((100000, 3, 10 ** 6), (0, 0, None))
        cargo = tuple((0, (first, many, many, 1, 1)) for first, many in shape(2, 3, 100000))
        self.same(check_frame(SETUP, (9, 10 ** 6, 3, marks, cargo)), (9, 10 ** 6, 3, marks, cargo))

    def test_six_kinds(self):
        marks = tuple((at, 0, 7 if at else None) for at in range(6))
        cargo = tuple((at, (0, 1, at, at, at)) for at in range(1, 6))
        self.same(check_frame(BROAD, (0, 9, 0, marks, cargo)), (0, 9, 0, marks, cargo))
        self.fails(BadFrame, 3, check_frame, BROAD, (0, 9, 0, marks[:5], cargo))
