"""Points 33 and 34: logs."""

import random

from farstory.errors import BadLog, BadSetup, Quarrel
from farstory.logs import check_logs, joined, last_tick, outstanding
from farstory.shapes import shape
from tests.helping import NO_NUMBERS, NO_SEQUENCES, ODD, Case, lists
from tests.plain import frames_of, frozen, letters_of, random_flight

SETUP = (((2, 3, 2),), (1, 2), (1, 1))
FRAME = (0, 4, 0, ((2, 0, 3),), ((0, (0, 1, 7, 7, 7)),))
LATER = (5, 9, 1, ((4, 0, 9),), ())
FREE = (1, ("free", 0, 1))
NOTE = (1, ("note", 9))
LOGS = ((("sent", 10, FREE), ("heard", 12, FRAME)), (("heard", 11, FRAME),))
END = 10 ** 9


def heard(tick, frame=FRAME):
    return "heard", tick, frame


def sent(tick, letter=NOTE):
    return "sent", tick, letter


class Checks(Case):
    def test_logs(self):
        for logs in (LOGS, ((),), ((),) * 8, ((heard(0), heard(0)),), (LOGS[0],) + ((heard(END - 1),),) * 7,
                     ((heard(3, LATER), heard(3), heard(4, LATER)),)):
            self.same(check_logs(SETUP, logs), logs)
            self.same(check_logs(lists(SETUP), lists(logs)), logs)

    def test_no_logs_at_all(self):
        for value in NO_SEQUENCES + ((), [], ((),) * 9, ((), None), ("",), ("ab",), (0,), (LOGS[0], 7), ({},)):
            self.fails(BadLog, -1, check_logs, SETUP, value)

    def test_no_rows(self):
        good = heard(3)
        for value in ODD + (
            ("heard", 3), ("heard", 3, FRAME, 0), ("hear", 3, FRAME), ("Heard", 3, FRAME), (None, 3, FRAME), "abc",
            ("heard", 3, FRAME[:4]), ("heard", 3, None), ("heard", 3, NOTE), ("heard", 3, FRAME[:3] + (None, ())),
            ("heard", 3, FRAME[:4] + (((0, (0, 2, 7, 7, 7)),),)), (("heard",), 3, FRAME), (3, "heard", FRAME),
            ("send", 3, NOTE), (None, 3, NOTE), ("sent", 3, FRAME), ("sent", 3, None), ("sent", 3, (0, ("note", 9))), ("sent", 3, (True, ("note", 9))),
            ("sent", 3, (1, ("free", 1, 0))), ("sent", 3, (1, ("note", 1000))),
        ) + tuple((word, tick, what) for tick in NO_NUMBERS + (END, END + 1) for word, what in (
            ("heard", FRAME), ("sent", NOTE))):
            self.fails(BadLog, (0, 0), check_logs, SETUP, ((value,),))
            self.fails(BadLog, (0, 1), check_logs, SETUP, ((good, value, None), (None,)))
            self.fails(BadLog, (2, 1), check_logs, SETUP, ((good,), (), [good, value], (None,)))

    def test_ticks_do_not_fall(self):
        self.fails(BadLog, (0, 1), check_logs, SETUP, ((heard(4), heard(3)),))
        self.fails(BadLog, (0, 1), check_logs, SETUP, ((heard(4), sent(3)),))
        self.fails(BadLog, (1, 2), check_logs, SETUP, ((), (heard(4), heard(4), heard(3))))
        # Each house has a log of its own.
        self.same(len(check_logs(SETUP, ((heard(4),), (heard(3),)))), 2)

    def test_letters_stand_in_house_0_alone(self):
        self.same(check_logs(SETUP, ((sent(3),), ())), ((sent(3),), ()))
        for house in range(1, 8):
            logs = ((sent(3),),) + ((),) * (house - 1) + ((heard(3), sent(3)),)
            self.fails(BadLog, (house, 1), check_logs, SETUP, logs)

    def test_stop_and_wait(self):
        two = (2, ("note", 3))
        good = (sent(1), sent(2), heard(3), sent(4), heard(5, LATER), sent(5, two), heard(6), sent(7, two), heard(8, LATER))
        self.same(check_logs(SETUP, (good,)), (good,))
        # Not the last frame tells the number, but the greatest one.
        for rows in (
            (sent(1, two),), (sent(1, (3, ("note", 3))),), (heard(1), sent(2, two)), (heard(1, LATER), sent(2)),
            (heard(1, LATER), sent(2, (3, ("note", 3)))), good[:7] + (sent(7),), good[:4] + (sent(4, two),),
        ):
            self.fails(BadLog, (0, len(rows) - 1), check_logs, SETUP, (rows,))
        # What other houses heard does not count.
        self.fails(BadLog, (0, 0), check_logs, SETUP, ((sent(9, two),), (heard(1, LATER),)))

    def test_copies_have_one_deed(self):
        for other in ((1, ("note", 8)), FREE):
            self.fails(BadLog, (0, 1), check_logs, SETUP, ((sent(1), sent(1, other)),))
            self.fails(BadLog, (0, 2), check_logs, SETUP, ((sent(1), heard(2), sent(3, other)),))
        self.same(len(check_logs(SETUP, ((sent(1), heard(2, LATER), sent(3, (2, ("note", 9)))),))[0]), 3)

    def test_setups_ahead_of_all_else(self):
        for function in (check_logs, joined):
            self.fails(BadSetup, -1, function, None, None)
            self.fails(BadSetup, 1, function, (SETUP[0], (2, 1), (1, 1)), LOGS)
            self.fails(BadLog, -1, function, SETUP, None)
            self.fails(BadLog, (1, 0), function, SETUP, (LOGS[0], (None,)))

    def test_last_tick(self):
        self.same([last_tick(logs) for logs in (LOGS, ((),), ((), (heard(7),)), lists(LOGS), ((sent(END - 1),),))],
                  [12, 0, 7, 12, END - 1])


class Joined(Case):
    def test_frames_hearings_letters(self):
        two = (2, ("note", 3))
        logs = (
            (sent(8), sent(8), heard(9, LATER), sent(9, two), heard(9, LATER), sent(10, two), heard(12)),
            (heard(9, LATER), heard(9)), (), (heard(11),),
        )
        wanted = ((FRAME, LATER), ((0, 9), (0, 11), (0, 12), (1, 9)), ((1, NOTE[1], (8, 8)), (2, two[1], (9, 10))))
        self.same(joined(SETUP, logs), wanted)
        self.same(joined(lists(SETUP), lists(logs)), wanted)
        self.same(joined(SETUP, ((), ())), ((), (), ()))
        self.same(joined(SETUP, ((sent(0),),)), ((), (), ((1, NOTE[1], (0,)),)))

    def test_unlike_frames_of_one_number(self):
        unlike = FRAME[:4] + ((),)
        other = (5, 10) + LATER[2:]
        for logs, number in (
            (((heard(1), heard(2, unlike)),), 0), (((heard(1),), (heard(1, unlike),)), 0),
            # The first row, by house and place, that has one ahead of it.
            (((heard(1), heard(1, LATER)), (heard(1, other), heard(1, unlike))), 5),
            (((heard(1), heard(1, LATER)), (heard(1, LATER), heard(1, unlike)), (heard(0, other),)), 0),
        ):
            self.fails(Quarrel, ("frames", number), joined, SETUP, logs)
            self.fails(Quarrel, ("frames", number), joined, SETUP, lists(logs))

    def test_beside_plain_lists(self):
        chance = random.Random(33)
        for _ in range(150):
            setup, flight = random_flight(chance, 14)
            logs = frozen(flight.logs)
            self.same(check_logs(setup, logs), logs)
            frames, hearings, letters = joined(setup, logs)
            self.same(frames, tuple(frames_of(logs)))
            self.same(letters, tuple(letters_of(logs)))
            told = {(row[2], row[1]) for log in logs for row in log if row[0] == "heard"}
            self.same(hearings, tuple(sorted((frames.index(frame), tick) for frame, tick in told)))
            number = frames[-1][2] + 1 if frames else 1
            out = [letter for letter in letters if letter[0] == number]
            self.same(outstanding(frames, letters), out[0] if out else None)
            self.same(outstanding(lists(frames), lists(letters)), out[0] if out else None)

    def test_outstanding(self):
        one, two = (1, NOTE[1], (8, 8)), (2, NOTE[1], (9,))
        self.same(outstanding((), ()), None)
        self.same(outstanding((), (one,)), one)
        self.same(outstanding((FRAME,), (one,)), one)
        self.same(outstanding((FRAME, LATER), (one,)), None)
        self.same(outstanding((FRAME, LATER), (one, two)), two)
        self.same(outstanding((FRAME,), (two,)), None)

    def test_two_hundred_rows(self):
        marks = ((100000, 50, 9),)
        first, size = shape(2, 50, 100000)[0]
        many = [(at, 9 + at, 0, marks, ((0, (first, size, 0, 0, 0)),) * 100) for at in range(25)]
        logs = [[heard(at, frame) for at, frame in enumerate(many)] for _ in range(8)]
        frames, hearings, letters = joined(SETUP, logs)
        self.same((frames, letters), (tuple(many), ()))
        self.same(hearings, tuple((at, at) for at in range(25)))
