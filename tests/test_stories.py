"""Points 35 to 37: stories."""

import random

from farstory.errors import BadLog, BadSetup
from farstory.logs import check_logs
from farstory.stories import story_holds
from tests.helping import NO_INTEGERS, NO_SEQUENCES, ODD, Case, are_logs, lists
from tests.plain import bent, frozen, letters_of, part_of, plain_holds, random_flight

SETUP = (((2, 3, 2),), (1, 2), (1, 1))
FRAME = (0, 4, 0, ((2, 0, 3),), ((0, (0, 1, 7, 7, 7)),))
FREE = (1, ("free", 0, 1))
LOGS = ((("sent", 10, FREE), ("heard", 12, FRAME)), (("heard", 11, FRAME),))
ROWS = ((0, 7), (3, 0), (5, 9))
STORY = (6, (None,), (ROWS,))
TAKEN = (6, (5,), (ROWS,))
FAR = 10 ** 6


def put(value, place, what):
    """The same with another thing at a place of places."""
    if not place:
        return what
    return value[:place[0]] + (put(value[place[0]], place[1:], what),) + value[place[0] + 1:]


class Forms(Case):
    """What is no story in its form holds nowhere, and raises nothing."""

    def holds(self, story, logs=LOGS, now=12):
        found = story_holds(SETUP, logs, now, story)
        self.assertIn(repr(found), ("True", "False"))
        return found

    def test_stories(self):
        for story in (STORY, TAKEN):
            self.assertTrue(self.holds(story))
            self.assertTrue(self.holds(lists(story)))
            self.assertIs(story_holds(lists(SETUP), lists(LOGS), 12, lists(story)), True)

    def test_any_value(self):
        for value in ODD + NO_SEQUENCES + (STORY[:2], STORY + ((),), "abc", (STORY,)):
            self.assertFalse(self.holds(value))

    def test_any_part(self):
        for place in ((0,), (1,), (1, 0), (2,), (2, 0), (2, 0, 0), (2, 0, 1, 0)):
            for value in ODD + ("6", (4,), ((None,),), 10 ** 9):
                for story in (STORY, TAKEN):
                    if put(story, place, value) != story and not (place == (1, 0) and value is None):
                        self.assertFalse(self.holds(put(story, place, value)), (place, value))

    def test_values(self):
        for value in (FAR, -FAR, 0):
            self.assertTrue(self.holds(put(STORY, (2, 0, 2, 1), value)))
        for value in (FAR + 1, -FAR - 1, True, None):
            self.assertFalse(self.holds(put(STORY, (2, 0, 2, 1), value)))
        # The cargo tells of row 0 alone.
        self.assertTrue(self.holds(put(STORY, (2, 0, 1, 1), -4)))
        self.assertFalse(self.holds(put(STORY, (2, 0, 0, 1), 8)))

    def test_takings(self):
        two = ((("sent", 10, (1, ("note", 4))), ("heard", 12, put(FRAME, (2,), 1)), ("sent", 12, (2, ("note", 5)))),)
        for takings, holds in (
            ((4, 6), True), ((4, None), True), ((None, None), False), ((4,), False), ((4, 6, None), False), ((4, 7), False),
            ((4, True), False), ((4, "6"), False), ((None, 6), False), ((4, -1), False), ((), False), (None, False),
            (4, False), ((4, 5), False), ((6, 4), False),
        ):
            story = (7, takings, (((0, 7), (3, 0), (5, 9)),))
            self.assertIs(story_holds(SETUP, two, 13, story), holds, takings)

    def test_rows_of_each_kind(self):
        setup = (((2, 3, 2), (1, 9, 2)), (1, 2), (1, 1))
        logs = ((("heard", 11, (0, 4, 0, ((2, 0, 3), (0, 0, None)), ())),),)
        for rows, holds in (((ROWS, ()), True), ((ROWS, ((5, 1),)), True), ((ROWS,), False), ((ROWS, (), ()), False),
                            ((ROWS, ((4, 1),)), False), (((), ROWS), False), ((ROWS, ((6, 1), (5, 1))), False),
                            ((ROWS, ((5, 1), (5, 1))), False), ((ROWS, ((5,),)), False), ((ROWS, ((5, 1, 1),)), False)):
            self.assertIs(story_holds(setup, logs, 12, (6, (), rows)), holds, rows)


class Holding(Case):
    def holds(self, wanted, now, story, logs=LOGS, setup=SETUP):
        self.assertIs(story_holds(setup, logs, now, story), wanted)
        self.assertIs(plain_holds(setup, logs, now, story), wanted)

    def test_one_thing_bent(self):
        self.holds(True, 12, STORY)
        self.holds(True, 12, TAKEN)
        for story in (
            (5, (None,), (ROWS,)), (7, (None,), (ROWS,)), (6, (4,), (ROWS,)), (6, (6,), (ROWS,)), (6, (0,), (ROWS,)),
            (6, (None,), (((0, 7), (2, 0), (5, 9)),)), (6, (None,), (((0, 7), (3, 0), (6, 9)),) * 1 + ((),)),
            (6, (None,), (((1, 7), (3, 0), (4, 9)),)), (6, (None,), (((0, 7), (3, 0)),)),
            (6, (None,), (((0, 7), (3, 0), (7, 9)),)), (6, (None,), (((0, 6), (3, 0), (5, 9)),)),
            (6, (None,), (((0, 7), (3, 0), (5, 9), (7, 0)),)), (6, (None,), ((),)),
        ):
            self.assertIs(story_holds(SETUP, LOGS, 12, story), False, story)
        self.holds(True, 12, (6, (None,), (((1, 7), (3, 0), (6, 9)),)))

    def test_the_next_row_can_still_come(self):
        # Row 3 is due at 8 behind row 2 at 5: by tick 14 it must be laid, by tick 13 not yet.
        self.holds(True, 13, STORY)
        self.holds(False, 14, STORY)
        self.holds(True, 14, (6, (None,), (ROWS + ((8, 1),),)))
        self.holds(False, 13, (6, (None,), (ROWS + ((8, 1),),)))
        self.holds(True, 13, (6, (None,), (ROWS + ((7, 1),),)))

    def test_none_behind_now(self):
        logs = ((("sent", 10, FREE),),)
        # Without frames whichever offset can be, also where the stamps of the probe have not begun.
        for now, story, holds in (
            (10, (99, (None,), ((),)), True), (10, (8, (None,), ((),)), True), (10, (7, (None,), ((),)), False),
            (10, (7, (None,), (((3, 0),),)), True), (10, (8, (None,), (((3, 0),),)), False),
            (10, (-7, (None,), (tuple((3 * at, at) for at in range(6)),)), True), (11, (9, (2,), (((0, 5),),)), True),
            (10, (8, (3,), (((0, 5), (2, 5)),)), False), (11, (8, (3,), (((0, 5), (3, 5)),)), True),
            (11, (11, (0,), ((),)), True), (11, (11, (0,), (((0, 1),),)), True), (11, (12, (-1,), ((),)), False),
        ):
            self.assertIs(story_holds(SETUP, logs, now, story), holds, (now, story))

    def test_takings_are_behind_now_nowhere(self):
        frame = put(FRAME, (3,), ((2, 0, 3),))
        logs = ((("sent", 10, FREE), ("sent", 11, FREE), ("heard", 11, frame)),)
        self.holds(True, 11, (6, (5,), (ROWS,)), logs)
        self.holds(False, 11, (6, (6,), (ROWS,)), logs)
        self.holds(True, 12, (6, (6,), (ROWS,)), logs)
        self.holds(False, 12, (6, (7,), (ROWS,)), logs)

    def test_at_one_stamp_rows_then_letters_then_the_frame(self):
        setup = (((2, 3, 2),), (1, 1), (1, 1))
        letter = (1, ("free", 0, 9))
        for taken, stamp, marks, holds in (
            # The row of stamp 3 is let go by the letter of stamp 3, and the frame of stamp 3 tells so.
            (1, 3, (2, 2, 3), True), (1, 3, (2, 1, 3), False), (1, 3, (2, 0, 3), False), (0, 3, (2, 0, 3), False),
            (1, 4, (2, 2, 3), True),
        ):
            logs = ((("sent", 5, letter), ("heard", stamp + 4, (0, stamp, taken, (marks,), ()))),)
            self.holds(holds, stamp + 4, (3, (3,), (((0, 1), (3, 2)),)), logs, setup)

    def test_letters_at_one_stamp(self):
        # The second letter is sent once a frame told the first one taken; both come at one stamp by no way here.
        setup = (((2, 3, 2),), (0, 0), (0, 5))
        frame = (0, 3, 1, ((2, 2, 3),), ())
        logs = ((("sent", 6, (1, ("free", 0, 9))), ("heard", 6, frame), ("sent", 6, (2, ("note", 1)))),)
        self.holds(True, 7, (3, (3, 4), (((0, 1), (3, 2)),)), logs, setup)
        self.holds(False, 7, (3, (3, 3), (((0, 1), (3, 2)),)), logs, setup)
        self.holds(False, 7, (3, (4, 4), (((0, 1), (3, 2)),)), logs, setup)

    def test_unlike_frames_and_stamps_that_do_not_rise(self):
        story = (6, (None,), (ROWS,))
        other = put(FRAME, (4,), ())
        for logs, holds in (
            ((LOGS[0], (("heard", 11, other),)), False), (LOGS, True),
            # A frame of a greater number and a stamp that is no greater one.
            ((LOGS[0], (("heard", 11, put(FRAME, (0,), 3)),)), False),
            ((LOGS[0], (("heard", 12, put(put(FRAME, (0,), 3), (1,), 5)),)), False),
            ((LOGS[0], (("heard", 12, (3, 5, 0, ((3, 0, 5),), ())),)), True),
            # Frames that were not heard need not find stamps between.
            ((LOGS[0], (("heard", 12, (900, 5, 0, ((3, 0, 5),), ())),)), True),
        ):
            self.holds(holds, 12, story, logs)

    def test_letters_that_were_never_sent(self):
        frame = put(FRAME, (2,), 1)
        self.holds(False, 12, (6, (), (ROWS,)), ((("heard", 11, frame),),))
        logs = ((("heard", 11, frame), ("sent", 11, (2, ("note", 3)))),)
        self.holds(False, 12, (6, (6,), (ROWS,)), logs)
        self.holds(False, 12, (6, (None,), (ROWS,)), logs)


class ByForce(Case):
    def test_what_truly_was(self):
        chance = random.Random(35)
        for _ in range(150):
            setup, flight = random_flight(chance, chance.randrange(4, 16))
            logs = check_logs(setup, frozen(flight.logs))
            last = max([row[1] for log in logs for row in log] + [0])
            for now in range(last, 16):
                # Led up to a tick, all that was done aboard by then is so.
                if now <= last_step(flight):
                    self.assertIs(story_holds(setup, logs, now, truth(flight, now)), True)

    def test_bent_stories(self):
        chance = random.Random(36)
        told = {True: 0, False: 0}
        for _ in range(120):
            setup, flight = random_flight(chance, chance.randrange(6, 14))
            logs = frozen(flight.logs)
            now = last_step(flight)
            for _ in range(25):
                story = bent_story(chance, truth(flight, now))
                others = logs if chance.randrange(4) else bent(chance, part_of(chance, logs, 5))
                if len(letters_of(others)) == len(story[1]) and are_logs(setup, others):
                    later = max([row[1] for log in others for row in log] + [now])
                    found = story_holds(setup, others, later, story)
                    self.same(found, plain_holds(setup, others, later, story))
                    told[found] += 1
        self.assertGreater(min(told.values()), 200)

    def test_with_further_hearings_there_are_no_more(self):
        chance = random.Random(37)
        for _ in range(60):
            setup, flight = random_flight(chance, 12)
            logs = frozen(flight.logs)
            now = last_step(flight)
            fewer = tuple(tuple(row for row in log if row[0] == "sent" or chance.randrange(2)) for log in logs)
            if are_logs(setup, fewer):
                for _ in range(15):
                    story = bent_story(chance, truth(flight, now))
                    if story_holds(setup, logs, now, story):
                        self.assertIs(story_holds(setup, fewer, now, story), True)


def last_step(flight):
    """The last tick up to which a flight was led."""
    return flight.end


def truth(flight, now):
    """What truly was by a tick."""
    offset, takings, rows = flight.story(now)
    return offset, tuple(None if stamp is None or stamp + offset > now else stamp for stamp in takings), rows


def bent_story(chance, story):
    """A story with one stamp, value, taking, or the offset bent, or none."""
    offset, takings, rows = story
    word = chance.randrange(6)
    if word == 0:
        return offset + chance.choice((-1, 1)), takings, rows
    if word == 1 and takings:
        at = chance.randrange(len(takings))
        stamp = chance.choice((None, chance.randrange(9), takings[at]))
        return offset, takings[:at] + (stamp,) + ((None,) * (len(takings) - at - 1) if stamp is None else takings[at + 1:]), rows
    kind = chance.randrange(len(rows))
    if word in (2, 3, 4) and rows[kind]:
        at = chance.randrange(len(rows[kind])) if word < 4 else len(rows[kind]) - 1
        stamp, value = rows[kind][at]
        row = (stamp, chance.randrange(-9, 10)) if word == 2 else (max(0, stamp + chance.choice((-1, 1))), value)
        laid = rows[kind][:at] + (row,) + rows[kind][at + 1:]
        return offset, takings, rows[:kind] + (laid,) + rows[kind + 1:]
    if word == 5:
        stamp = rows[kind][-1][0] + chance.randrange(3) if rows[kind] else 0
        laid = rows[kind][:-1] if chance.randrange(2) else rows[kind] + ((stamp, 0),)
        return offset, takings, rows[:kind] + (laid,) + rows[kind + 1:]
    return story


class Wrong(Case):
    def test_errors_in_their_order(self):
        self.fails(BadSetup, -1, story_holds, None, None, None, None)
        self.fails(BadLog, -1, story_holds, SETUP, None, None, None)
        self.fails(BadLog, (1, 0), story_holds, SETUP, (LOGS[0], (None,)), None, None)
        for value in NO_INTEGERS + (-1, 0, 11):
            self.refuses(value, story_holds, SETUP, LOGS, value, None)
        self.assertIs(story_holds(SETUP, LOGS, 12, None), False)
        for value in NO_INTEGERS + (-1,):
            self.refuses(value, story_holds, SETUP, ((),), value, STORY)
        self.assertIs(story_holds(SETUP, ((),), 0, (0, (), (((0, 1),),))), True)

    def test_quarrels_are_told_as_no_story(self):
        logs = (LOGS[0], (("heard", 11, put(FRAME, (4,), ())),))
        for value in (None, STORY, TAKEN):
            self.assertIs(story_holds(SETUP, logs, 12, value), False)


class Limits(Case):
    def test_two_hundred_rows_of_each_kind(self):
        setup = (tuple((1, 3, keep) for keep in (2, 3, 4, 5, 6, 8)), (0, 10000), (0, 10000))
        laid = tuple((stamp, stamp % 7) for stamp in range(200))
        marks = tuple((stamp + 1, 0, stamp) for stamp in (10, 199))
        frames = [(at, stamp, 0, (mark,) * 6, ()) for at, (stamp, mark) in enumerate(zip((10, 199), marks))]
        logs = ((("heard", 300, frames[0]),) * 12 + (("heard", 300, frames[1]),) * 13,) * 8
        story = (100, (), (laid,) * 6)
        for now, wanted in ((300, True), (301, True), (302, False)):
            self.assertIs(story_holds(setup, logs, now, story), wanted)
        self.assertIs(story_holds(setup, logs, 300, (100, (), (laid,) * 5 + (laid[:-1],))), False)
