"""Points 55 to 58: letting go."""

import random
import time

from farstory.errors import BadFrame, BadLog, BadSetup, NoClass, Quarrel
from farstory.ground import Ground, letter_now, may_send, most_below, unknown_below
from farstory.logs import check_logs
from tests.helping import NO_INTEGERS, NO_NUMBERS, ODD, Case, are_logs, lists
from tests.plain import (
    Flight, all_stories, flights, frames_of, frees_of, frozen, letters_of, plain_free, plain_lay, random_setup, store_at)

SETUP = (((2, 3, 2),), (1, 1), (1, 2))
FRAME = (0, 4, 0, ((2, 0, 4),), ((0, (0, 1, 7, 7, 7)),))
LATER = (3, 6, 1, ((3, 1, 6),), ())
NOTE = ("note", 3)
FREE = ("free", 0, 1)
LOGS = ((("heard", 10, FRAME),),)
DEAF = ((), ())


def plain_told(frames, kind):
    return {span for frame in frames for at, span in frame[4] if at == kind}


def plain_known(told, place):
    """Whether told spans within a place are all of its rows."""
    rows = set()
    for first, many, *_ in told:
        if place[0] <= first and first + many <= place[0] + place[1]:
            rows.update(range(first, first + many))
    return len(rows) == place[1]


def plain_stores(setup, logs, now, kind):
    """All (laid, spans) of a kind at which a copy sent now can come and be taken."""
    frames, letters = frames_of(logs), letters_of(logs)
    number = frames[-1][2] + 1
    places = [at for at, letter in enumerate(letters) if letter[0] == number]
    for tick in range(now + setup[2][0], now + setup[2][1] + 1):
        for offset, takings, fitting in all_stories(setup, logs, tick):
            if tick - offset <= frames[-1][1] or any(takings[at] is not None for at in places):
                continue
            for stamps in fitting[kind]:
                yield store_at(setup[0][kind], stamps, frees_of(letters, takings, kind), tick - offset)


def plain_unknown(told, stores, below):
    gone = {place for _, spans in stores for place in spans if sum(place) <= below}
    return tuple(sorted(place for place in gone if not plain_known(told, place)))


class LetterNow(Case):
    def test_wrong(self):
        self.fails(BadSetup, -1, letter_now, None, None)
        self.fails(BadLog, -1, letter_now, SETUP, None)
        self.fails(BadLog, (0, 0), letter_now, SETUP, ((None,),))

    def test_numbers_and_deeds(self):
        self.same(letter_now(SETUP, DEAF), (1, None))
        self.same(letter_now(SETUP, LOGS), (1, None))
        sent = (("sent", 11, (1, FREE)),)
        self.same(letter_now(SETUP, (LOGS[0] + sent,)), (1, FREE))
        self.same(letter_now(lists(SETUP), lists((LOGS[0] + sent,))), (1, FREE))
        self.same(letter_now(SETUP, (LOGS[0] + sent * 2 + (("heard", 12, LATER),),)), (2, None))
        more = LOGS[0] + sent + (("heard", 12, LATER), ("sent", 12, (2, NOTE)))
        self.same(letter_now(SETUP, (more,)), (2, NOTE))
        # An earlier frame that is heard later tells nothing new.
        self.same(letter_now(SETUP, (more + (("heard", 13, FRAME),),)), (2, NOTE))
        # What other houses heard does not count for house 0; nor need the logs be free of quarrels.
        self.same(letter_now(SETUP, (LOGS[0] + sent, (("heard", 12, LATER),))), (1, FREE))
        self.same(letter_now(SETUP, ((), (("heard", 12, LATER),))), (1, None))
        self.same(letter_now(SETUP, ((("heard", 12, FRAME[:2] + (4,) + FRAME[3:]),), (("heard", 12, FRAME),))), (5, None))


class Wrong(Case):
    def test_errors_in_their_order(self):
        crossed = (LOGS[0], (("heard", 11, FRAME[:4] + ((),)),))
        parted = (LOGS[0], (("heard", 12, FRAME),))
        for function, more in ((unknown_below, (None,)), (most_below, ())):
            self.fails(BadSetup, -1, function, None, None, None, None, *more)
            self.fails(BadLog, -1, function, SETUP, None, None, None, *more)
            for value in NO_INTEGERS + (-1, 9):
                self.refuses(value, function, SETUP, LOGS, value, None, *more)
            for logs in (DEAF, lists(DEAF)):
                self.refuses(logs, function, SETUP, logs, 10, None, *more)
            self.fails(Quarrel, ("frames", 0), function, SETUP, crossed, 12, None, *more)
            self.fails(Quarrel, ("offsets", (((5, 5),), ((7, 7),))), function, SETUP, parted, 12, None, *more)
            for value in NO_NUMBERS + (1, 2):
                self.fails(NoClass, value, function, SETUP, LOGS, 11, value, *more)
        for value in NO_NUMBERS + (100001,):
            self.refuses(value, unknown_below, SETUP, LOGS, 11, 0, value)
        self.same(unknown_below(SETUP, LOGS, 11, 0, 100000), ((0, 2), (2, 1), (3, 1)))

    def test_errors_of_may_send(self):
        crossed = (LOGS[0], (("heard", 11, FRAME[:4] + ((),)),))
        parted = (LOGS[0], (("heard", 12, FRAME),))
        self.fails(BadSetup, -1, may_send, None, None, None, None)
        self.fails(BadLog, -1, may_send, SETUP, None, None, None)
        for value in NO_INTEGERS + (-1, 9):
            self.refuses(value, may_send, SETUP, LOGS, value, None)
        for value in ODD + (("free", 0, 100001), ("free", 1, 0), ("note", 1000), ("note",), (1, FREE)):
            self.refuses(value, may_send, SETUP, crossed, 11, value)
        for deed in (NOTE, FREE):
            self.fails(Quarrel, ("frames", 0), may_send, SETUP, crossed, 11, deed)
        # The quarrels of offsets are raised just if [56] is asked.
        self.fails(Quarrel, ("offsets", (((5, 5),), ((7, 7),))), may_send, SETUP, parted, 12, FREE)
        self.same(may_send(SETUP, parted, 12, NOTE), True)
        logs = (LOGS[0] + (("sent", 11, (1, NOTE)),), parted[1])
        self.same(may_send(SETUP, logs, 12, FREE), False)


class Examples(Case):
    def test_unknown(self):
        self.same(unknown_below(SETUP, LOGS, 11, 0, 3), ((0, 2), (2, 1)))
        self.same(unknown_below(lists(SETUP), lists(LOGS), 11, 0, 3), ((0, 2), (2, 1)))
        # Row 0 alone is known; with row 1 it becomes one span as soon as a third row is laid.
        self.same(unknown_below(SETUP, LOGS, 11, 0, 1), ())
        self.same(unknown_below(SETUP, LOGS, 11, 0, 2), ((0, 2),))
        self.same(most_below(SETUP, LOGS, 11, 0), 1)
        self.same(unknown_below(SETUP, LOGS, 10, 0, 2), ((0, 2), (1, 1)))
        told = FRAME[:4] + (((0, (0, 1, 7, 7, 7)), (0, (1, 1, 4, 4, 4))),)
        self.same(unknown_below(SETUP, ((("heard", 10, told),),), 11, 0, 3), ((2, 1),))
        self.same(most_below(SETUP, ((("heard", 10, told),),), 11, 0), 2)

    def test_no_such_story(self):
        # A copy sent now comes at the frame's stamp: then it would have been told as taken.
        setup = (SETUP[0], (0, 0), (0, 0))
        logs = ((("heard", 10, FRAME),),)
        self.same(unknown_below(setup, logs, 10, 0, 100000), ())
        self.same(most_below(setup, logs, 10, 0), 0)
        self.same(may_send(setup, logs, 10, ("free", 0, 100000)), True)
        self.same(may_send(setup, logs, 11, ("free", 0, 2)), False)

    def test_all_is_known(self):
        told = (0, 4, 0, ((2, 0, 4),), ((0, (0, 1, 7, 7, 7)), (0, (1, 1, 4, 4, 4))))
        setup = (((4, 20, 2),), (0, 0), (1, 1))
        logs = ((("heard", 4, told),),)
        self.same(most_below(setup, logs, 4, 0), 2)
        self.same(may_send(setup, logs, 4, ("free", 0, 100000)), True)

    def test_taken_already(self):
        # By that frame row 0 was let go; what is aboard begins with row 1.
        logs = ((("sent", 6, (1, FREE)), ("heard", 10, (0, 4, 1, ((3, 1, 4),), ())),),)
        self.same(unknown_below(SETUP, logs, 10, 0, 3), ((1, 1), (1, 2), (2, 1)))
        self.same(unknown_below(SETUP, logs, 11, 0, 3), ((1, 2),))
        self.same(unknown_below(SETUP, logs, 11, 0, 1), ())
        self.same(most_below(SETUP, logs, 11, 0), 2)

    def test_may_send(self):
        for below, may in ((0, True), (1, True), (2, False), (100000, False)):
            self.assertIs(may_send(SETUP, LOGS, 11, ("free", 0, below)), may)
        self.assertIs(may_send(lists(SETUP), lists(LOGS), 11, lists(FREE)), True)
        # Without a frame just below 0.
        for below, may in ((0, True), (1, False), (100000, False)):
            self.assertIs(may_send(SETUP, DEAF, 0, ("free", 0, below)), may)
        self.assertIs(may_send(SETUP, DEAF, 0, NOTE), True)
        self.assertIs(may_send(SETUP, ((("sent", 2, (1, NOTE)),),), 2, ("free", 0, 0)), False)
        # Just the deed that was sent.
        logs = (LOGS[0] + (("sent", 11, (1, FREE)),),)
        self.assertIs(may_send(SETUP, logs, 11, FREE), True)
        for deed in (NOTE, ("free", 0, 0), ("free", 0, 2)):
            self.assertIs(may_send(SETUP, logs, 11, deed), False)
        logs = (LOGS[0] + (("sent", 11, (1, NOTE)),),)
        self.assertIs(may_send(SETUP, logs, 11, NOTE), True)
        self.assertIs(may_send(SETUP, logs, 11, ("note", 4)), False)

    def test_a_letter_that_another_house_heard_taken(self):
        logs = (LOGS[0] + (("sent", 10, (1, FREE)),), (("heard", 12, LATER),))
        setup = (SETUP[0], (0, 9), (0, 9))
        # House 0 still sends letter 1, of which the last frame tells that it was taken: it does no harm.
        self.same(letter_now(setup, logs), (1, FREE))
        self.assertIs(may_send(setup, logs, 12, FREE), True)
        self.assertIs(may_send(setup, logs, 12, ("free", 0, 2)), False)
        # What is asked of [56] is the letter behind the last frame's: of number 2.
        self.same(unknown_below(setup, logs, 12, 0, 2), ((1, 1),))
        logs = (LOGS[0], (("heard", 12, LATER),))
        self.assertIs(may_send(setup, logs, 12, ("free", 0, 100000)), True)


class ByForce(Case):
    def test_unknown_and_most(self):
        some, none = 0, 0
        for setup, logs, now, _ in flights(1, 60, 9):
            for kind in range(len(setup[0])):
                stores = {(laid, tuple(spans)) for laid, spans in plain_stores(setup, logs, now, kind)}
                told = plain_told(frames_of(logs), kind)
                top = max([laid for laid, _ in stores], default=0)
                good = []
                for below in range(top + 3):
                    wanted = plain_unknown(told, stores, below)
                    self.same(unknown_below(setup, logs, now, kind, below), wanted)
                    if below <= top and not wanted:
                        good.append(below)
                    some, none = some + (wanted != ()), none + (wanted == () and below > 0)
                self.same(most_below(setup, logs, now, kind), max(good))
        self.assertGreater(some, 200)
        self.assertGreater(none, 50)

    def test_with_further_hearings_no_more(self):
        chance, many = random.Random(58), 0
        for setup, logs, now, _ in flights(1, 60):
            last = frames_of(logs)[-1]
            fewer = tuple(tuple(row for row in log if row[0] == "sent" or row[2] == last or chance.randrange(3))
                          for log in logs)
            if fewer == logs or not are_logs(setup, fewer):
                continue
            many += 1
            for kind in range(len(setup[0])):
                for below in (1, 2, 3, 5, 9, 100):
                    self.assertLessEqual(set(unknown_below(setup, logs, now, kind, below)),
                                         set(unknown_below(setup, fewer, now, kind, below)))
        self.assertGreater(many, 15)


class Careful(Flight):
    """A flight whose house 0 sends just what may be sent; it looks after what each letter lets go."""

    def __init__(self, chance, setup, offset, houses):
        Flight.__init__(self, chance, setup, offset, houses)
        self.ground = Ground(setup, houses)
        # By copy sent what was known then.
        self.known, self.refused, self.gone = [], 0, 0

    def hear(self, tick, eager):
        many = [len(log) for log in self.logs]
        Flight.hear(self, tick, eager)
        for house, log in enumerate(self.logs):
            for row in log[many[house]:]:
                self.ground.hear(house, tick, row[2])

    def send_letter(self, tick):
        number, deed = letter_now(self.setup, self.ground.logs)
        if deed is None:
            kind = self.chance.randrange(len(self.setup[0]))
            below = self.chance.randrange(len(self.rows[kind]) + 2)
            if self.chance.randrange(3) and frames_of(self.ground.logs):
                below = most_below(self.setup, self.ground.logs, tick, kind)
            deed = ("free", kind, below)
        if not may_send(self.setup, self.ground.logs, tick, deed):
            self.refused += 1
            return
        letter = self.ground.send(tick, deed)
        assert letter == (number, deed)
        self.logs[0].append(("sent", tick, letter))
        self.copies.append((tick, letter))
        frames = frames_of(self.ground.logs)
        self.known.append([plain_told(frames, kind) for kind in range(len(self.setup[0]))])

    def come(self, stamp, eager):
        least, most = self.setup[2]
        for at, (tick, (number, deed)) in enumerate(list(self.copies)):
            if least <= stamp + self.offset - tick <= most and self.chance.randrange(eager) == 0:
                if number == self.taken + 1:
                    self.taken = number
                    kind, below = deed[1:]
                    left = plain_free(self.stores[kind], below)
                    for place in self.stores[kind]:
                        if place not in left:
                            self.gone += 1
                            assert plain_known(self.known[at][kind], place), (self.setup, self.ground.logs)
                    self.stores[kind] = left


class WhatLettersLetGo(Case):
    def test_it_was_known(self):
        gone = refused = 0
        for seed in range(250):
            chance = random.Random(seed)
            setup = random_setup(chance, chance.randrange(1, 3), 4)
            if setup[1][0] + setup[2][0] == 0:
                setup = setup[:2] + ((1, 1 + setup[2][1]),)
            flight = Careful(chance, setup, chance.randrange(-2, 4), chance.randrange(1, 3))
            eager = chance.randrange(2, 4)
            for tick in range(flight.offset, flight.offset + 25):
                flight.step(tick, eager)
            self.same(flight.ground.logs, frozen(flight.logs))
            gone, refused = gone + flight.gone, refused + flight.refused
        self.assertGreater(gone, 60)
        self.assertGreater(refused, 60)


class Grounds(Case):
    def test_new(self):
        self.fails(BadSetup, -1, Ground, None, None)
        self.fails(BadSetup, 2, Ground, SETUP[:2] + (None,), 0)
        for value in NO_NUMBERS + (0, 9, 100):
            self.refuses(value, Ground, SETUP, value)
        for houses in (1, 3, 8):
            ground = Ground(lists(SETUP), houses)
            self.same((ground.setup, ground.logs), (SETUP, ((),) * houses))

    def test_hear(self):
        ground = Ground(SETUP, 2)
        for value in NO_NUMBERS + (2, 8):
            self.refuses(value, ground.hear, value, None, None)
        for value in NO_NUMBERS + (10 ** 9, 256 ** 5):
            self.refuses(value, ground.hear, 0, value, None)
        self.fails(BadFrame, -1, ground.hear, 1, 0, None)
        self.fails(BadFrame, 3, ground.hear, 1, 0, FRAME[:3] + ((), ()))
        self.same(ground.logs, ((), ()))
        self.assertIsNone(ground.hear(1, 10, lists(FRAME)))
        self.same(ground.logs, ((), (("heard", 10, FRAME),)))
        # No house's row may stand ahead of another house's last one.
        for house in (0, 1):
            self.refuses(9, ground.hear, house, 9, FRAME)
        self.assertIsNone(ground.hear(0, 10, FRAME))
        self.assertIsNone(ground.hear(0, 10 ** 9 - 1, FRAME))
        self.same(ground.logs, ((("heard", 10, FRAME), ("heard", 10 ** 9 - 1, FRAME)), (("heard", 10, FRAME),)))
        self.same(check_logs(SETUP, ground.logs), ground.logs)

    def test_send(self):
        ground = Ground(SETUP, 2)
        for value in NO_NUMBERS + (10 ** 9,):
            self.refuses(value, ground.send, value, None)
        for value in ODD:
            self.refuses(value, ground.send, 0, value)
        self.refuses(("free", 0, 1), ground.send, 0, ("free", 0, 1))
        self.same(ground.logs, ((), ()))
        ground.hear(1, 10, FRAME)
        self.refuses(9, ground.send, 9, FREE)
        self.refuses(("free", 0, 2), ground.send, 11, ("free", 0, 2))
        self.refuses(["free", 0, 2], ground.send, 11, ["free", 0, 2])
        self.same(ground.send(11, lists(FREE)), (1, FREE))
        self.same(ground.send(12, FREE), (1, FREE))
        self.refuses(NOTE, ground.send, 12, NOTE)
        sent = (("sent", 11, (1, FREE)), ("sent", 12, (1, FREE)))
        self.same(ground.logs, (sent, (("heard", 10, FRAME),)))
        ground.hear(0, 13, LATER)
        self.same(ground.send(13, NOTE), (2, NOTE))
        self.same(ground.logs[0][-1], ("sent", 13, (2, NOTE)))

    def test_quarrels(self):
        ground = Ground(SETUP, 2)
        ground.hear(0, 10, FRAME)
        ground.hear(1, 12, FRAME)
        kept = ground.logs
        self.fails(Quarrel, ("offsets", (((5, 5),), ((7, 7),))), ground.send, 12, FREE)
        self.same(ground.logs, kept)
        self.same(ground.send(12, NOTE), (1, NOTE))
        ground.hear(0, 12, FRAME[:4] + ((),))
        kept = ground.logs
        self.fails(Quarrel, ("frames", 0), ground.send, 12, NOTE)
        self.same(ground.logs, kept)

    def test_logs_passed_change_nothing(self):
        frame = lists(FRAME)
        ground = Ground(SETUP, 1)
        ground.hear(0, 10, frame)
        frame[3].clear()
        self.same(ground.logs, LOGS)


class Limits(Case):
    def test_forty_stamps(self):
        setup = (((1, 40, 2), (1, 1, 8)), (0, 19), (0, 19))
        mark = (160, 0, 159)
        log = tuple(("heard", tick, (0, 159, 0, (mark, mark), ())) for tick in (270, 271))
        logs = (log, ((("heard", 278, (0, 159, 0, (mark, mark), ()))),))
        start = time.time()
        for kind in (0, 1):
            found = unknown_below(setup, logs, 280, kind, 100000)
            self.assertGreater(len(found), 30)
            self.same(most_below(setup, logs, 280, kind), min(sum(place) for place in found) - 1)
        self.same(may_send(setup, logs, 280, ("free", 0, 100000)), False)
        self.assertLess(time.time() - start, 5)

    def test_far_ticks(self):
        ground = Ground(SETUP, 1)
        ground.hear(0, 10, FRAME)
        # By then rows 0 to 8 are within one span of many more.
        self.same(ground.send(10 ** 9 - 1, ("free", 0, 9)), (1, ("free", 0, 9)))
