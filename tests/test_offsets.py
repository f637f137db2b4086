"""Points 38 to 41: offsets."""

import random

from farstory.errors import BadLog, BadSetup, Quarrel, Refused
from farstory.logs import last_tick
from farstory.offsets import bindings, offsets, past_rows, past_story, segments, taking_by_count, told_spans
from farstory.probe import Probe
from farstory.stories import story_holds
from tests.helping import NO_INTEGERS, Case, are_logs, lists
from tests.plain import (
    all_stories, bent, flights, frames_of, frozen, letters_of, parted_logs, pinned_logs, plain_free, plain_holds,
    plain_lay, random_flight)

SETUP = (((2, 3, 2),), (0, 4), (1, 2))
ONE = (0, 4, 0, ((2, 0, 4),), ((0, (1, 1, 7, 7, 7)),))
OTHER = (1, 9, 1, ((4, 0, 9),), ())
FREE = (1, ("free", 0, 1))
LOGS = ((("heard", 9, ONE), ("sent", 12, FREE), ("heard", 17, OTHER)),)
BEGIN = (None, -1, 0, ((0, 0, None),), ())
NOTE = (1, ("note", 7))


def integers(lot):
    """All integers of a lot whose stretches are ascending, as few as can be."""
    for low, high in lot:
        assert low <= high
    for one, other in zip(lot, lot[1:]):
        assert one[1] + 1 < other[0]
    return {at for low, high in lot for at in range(low, high + 1)}


def at_first(keep, first, laid):
    """The spans of a store of which the eldest row is this one: there is one such shape."""
    spans = []
    for row in range(first, laid):
        spans = plain_lay(spans, keep, row)
    return spans


def segment_chains(kind, one, other):
    """All stamps of a kind's rows in a segment, from mark to mark: (laid, first, last) at stamps."""
    gap, pause, _ = kind
    (stamp, (laid, _, last)), (end, (more, _, later)) = one, other
    if more < laid or last is not None and last > stamp:
        return
    ways = [()]
    for _ in range(more - laid):
        longer = []
        for way in ways:
            ahead = way[-1] if way else last
            least, most = (0, pause) if ahead is None else (ahead + gap, ahead + pause)
            longer += [way + (at,) for at in range(least, most + 1) if stamp < at <= end]
        ways = longer
    for way in ways:
        final = way[-1] if way else last
        if final == later and (pause if final is None else final + pause) > end:
            yield way


def plain_takings(kind, one, other, below):
    """By count all stamps at which the letter can be taken with it, gone through."""
    found = {}
    (stamp, (laid, first, _)), (end, (more, left, _)) = one, other
    for way in segment_chains(kind, one, other):
        for at in range(stamp + 1, end + 1):
            count = len([row for row in way if row <= at])
            spans = plain_free(at_first(kind[2], first, laid + count), below)
            for row in range(laid + count, more):
                spans = plain_lay(spans, kind[2], row)
            if (spans[0][0] if spans else more) == left:
                found.setdefault(count, set()).add(at)
    return found


class Segments(Case):
    def test_pairs_of_neighbours(self):
        self.same(segments(SETUP, (ONE, OTHER)), ((BEGIN, ONE), (ONE, OTHER)))
        self.same(segments(lists(SETUP), lists([ONE, OTHER])), ((BEGIN, ONE), (ONE, OTHER)))
        self.same(segments(SETUP, ()), ())
        self.same(segments(SETUP, [OTHER]), ((BEGIN, OTHER),))
        setup = (SETUP[0] * 3, (0, 4), (1, 2))
        frame = (7, 9, 0, ((0, 0, None),) * 3, ())
        self.same(segments(setup, (frame,)), (((None, -1, 0, ((0, 0, None),) * 3, ()), frame),))
        self.fails(BadSetup, -1, segments, None, None)

    def test_told_spans(self):
        frames = (
            (0, 4, 0, ((3, 0, 4), (1, 0, 4)), ((0, (2, 1, 9, 9, 9)), (0, (0, 2, 3, 1, 2)), (1, (0, 1, 5, 5, 5)))),
            (1, 9, 0, ((4, 0, 9), (1, 0, 4)), ((0, (3, 1, 0, 0, 0)), (0, (2, 1, 9, 9, 9)))),
        )
        self.same(told_spans(frames, 0), ((0, 2, 3, 1, 2), (2, 1, 9, 9, 9), (3, 1, 0, 0, 0)))
        self.same(told_spans(lists(frames), 1), ((0, 1, 5, 5, 5),))
        self.same(told_spans((), 0), ())
        self.same(told_spans((ONE,), 1), ())


class Takings(Case):
    def test_example(self):
        self.same(taking_by_count(SETUP, ONE, OTHER, FREE[1]), ((1, (6, 8)), (2, (9, 9))))
        self.same(taking_by_count(lists(SETUP), lists(ONE), lists(OTHER), lists(FREE[1])), ((1, (6, 8)), (2, (9, 9))))
        self.same(taking_by_count(SETUP, ONE, OTHER, NOTE[1]), ((None, (5, 9)),))
        self.same(taking_by_count(SETUP, BEGIN, ONE, NOTE[1]), ((None, (0, 4)),))
        self.same(taking_by_count(SETUP, BEGIN, (3, 0, 1, ((0, 0, None),), ()), NOTE[1]), ((None, (0, 0)),))
        self.fails(BadSetup, -1, taking_by_count, None, ONE, OTHER, NOTE[1])

    def test_nothing_is_laid(self):
        for below in (0, 1, 9):
            found = taking_by_count(SETUP, BEGIN, (0, 2, 1, ((0, 0, None),), ()), ("free", 0, below))
            self.same(found, ((0, (0, 2)),))

    def test_beside_all_chains(self):
        chance = random.Random(38)
        told = 0
        for _ in range(900):
            gap = chance.randrange(1, 3)
            kind = (gap, gap + chance.randrange(3), chance.choice((2, 3)))
            setup = ((kind,), (0, 4), (1, 2))
            laid = chance.randrange(6)
            last = chance.randrange(2 * laid, 2 * laid + 3) if laid else None
            mark = (laid, chance.randrange(laid + 1), last)
            mark = (laid, mark[1], last) if laid else (0, 0, None)
            stamp = (last if laid else -1) + chance.randrange(2) if laid else chance.choice((-1, 0))
            more = laid + chance.randrange(5)
            end = stamp + chance.randrange(1, 9)
            # Marks that can come about, some way.
            ways = [way for final in [last] + list(range(end + 1))
                    for way in segment_chains(kind, (stamp, mark), (end, (more, 0, final)))]
            if not ways:
                continue
            way = chance.choice(ways)
            below = chance.randrange(laid + 4)
            for left in range(more + 1):
                after = (more, left, way[-1] if way else last)
                plain = plain_takings(kind, (stamp, mark), (end, after), below)
                if plain:
                    told += 1
                    one, other = (3, stamp, 2, (mark,), ()), (4, end, 3, (after,), ())
                    found = taking_by_count(setup, one, other, ("free", 0, below))
                    self.same([count for count, _ in found], sorted(plain))
                    for count, (low, high) in found:
                        self.assertEqual(set(range(low, high + 1)), plain[count])
        self.assertGreater(told, 300)


class Bindings(Case):
    def test_example(self):
        wanted = (("heard", 0, ((1, 5),)), ("heard", 1, ((4, 8),)), ("taken", 1, ((4, 8),)))
        self.same(bindings(SETUP, LOGS), wanted)
        self.same(bindings(lists(SETUP), lists(LOGS)), wanted)
        self.same(offsets(SETUP, LOGS), ((4, 5),))
        self.same(offsets(lists(SETUP), lists(LOGS)), ((4, 5),))
        self.assertIn(past_rows(SETUP, LOGS, 4), [((9,), ((first, 4, third, 9),)) for first in (1, 2) for third in (6, 7)])

    def test_each_unlike_hearing(self):
        logs = (LOGS[0] + (("heard", 18, OTHER), ("heard", 18, OTHER)), (("heard", 8, ONE), ("heard", 17, OTHER)))
        self.same([(word, number, lot) for word, number, lot in bindings(SETUP, logs)], [
            ("heard", 0, ((0, 4),)), ("heard", 0, ((1, 5),)), ("heard", 1, ((4, 8),)), ("heard", 1, ((5, 9),)),
            ("taken", 1, ((4, 8),))])
        self.fails(Quarrel, ("offsets", (((0, 4),), ((1, 5),), ((4, 8),), ((5, 9),), ((4, 8),))), offsets, SETUP, logs)

    def test_several_stretches(self):
        setup = (((1, 2, 2),), (0, 9), (0, 0))
        one, other = (0, 3, 0, ((4, 0, 3),), ()), (1, 4, 1, ((5, 0, 4),), ())
        rows = [("sent", tick, NOTE) for tick in (4, 6, 6, 9)]
        logs = (tuple(rows), (("heard", 10, one),), (("heard", 10, other),))
        self.same(bindings(setup, logs)[2], ("taken", 1, ((0, 0), (2, 2), (5, 5))))
        self.same(offsets(setup, logs), ((0, 0), (2, 2), (5, 5)))
        for offset in (0, 2, 5):
            self.same(past_rows(setup, logs, offset)[0], (4,))
            self.assertIs(story_holds(setup, logs, 10, past_story(setup, logs, offset)), True)
        for offset in (-1, 1, 3, 4, 6):
            self.refuses(offset, past_rows, setup, logs, offset)
            self.refuses(offset, past_story, setup, logs, offset)
        # A further copy can make a lot wider.
        self.same(offsets(setup, (tuple(rows) + (("sent", 10, NOTE),),) + logs[1:]), ((0, 0), (2, 2), (5, 6)))

    def test_several_stretches_by_force(self):
        chance = random.Random(39)
        many = {}
        for _ in range(150):
            setup, logs = parted_logs(chance)
            wanted = {story[0] for story in all_stories(setup, logs, last_tick(logs))}
            lot = offsets(setup, logs)
            self.assertEqual(integers(lot), wanted)
            many[len(lot)] = many.get(len(lot), 0) + 1
        self.assertGreater(many[2], 10)

    def test_of_the_link(self):
        # Each lot is told by the ways alone.
        for setup, logs, _, _ in flights(1, 40):
            frames, letters = frames_of(logs), letters_of(logs)
            told = sorted({(row[2][0], row[1], row[2][1]) for log in logs for row in log if row[0] == "heard"})
            found = bindings(setup, logs)
            self.same([one[:2] for one in found if one[0] == "heard"], [("heard", number) for number, _, _ in told])
            for (number, tick, stamp), (_, _, lot) in zip(told, found):
                self.same(lot, ((tick - stamp - setup[1][1], tick - stamp - setup[1][0]),))
            taken = [one for one in found if one[0] == "taken"]
            self.same([one[1] for one in taken], list(range(1, frames[-1][2] + 1)))
            for (_, number, lot), segment in zip(taken, [pair for pair in segments(setup, frames) if pair[0][2] < pair[1][2]]):
                letter = [one for one in letters if one[0] == number][0]
                stamps = [range(low, high + 1) for _, (low, high) in taking_by_count(setup, *segment, letter[1])]
                self.assertEqual(integers(lot), {
                    tick + way - at for tick in letter[2] for way in range(setup[2][0], setup[2][1] + 1)
                    for stretch in stamps for at in stretch})


class Quarrels(Case):
    def quarrels(self, paper, logs, setup=SETUP):
        for function in (bindings, offsets):
            self.fails(Quarrel, paper, function, setup, logs)
        for function in (past_rows, past_story):
            self.fails(Quarrel, paper, function, setup, logs, None)

    def logs_of(self, *frames, letters=(FREE,)):
        """Logs of letters, sent ahead of all, and of frames, each heard by a house of its own."""
        sent = tuple(("sent", 0, letter) for letter in letters)
        return (sent,) + tuple((("heard", 20, frame),) for frame in frames)

    def test_taken(self):
        two = OTHER[:2] + (2,) + OTHER[3:]
        self.quarrels(("taken", 1), self.logs_of(ONE, two))
        self.quarrels(("taken", 0), self.logs_of(ONE[:2] + (2,) + ONE[3:], OTHER))
        # One that tells fewer.
        self.quarrels(("taken", 1), self.logs_of(ONE[:2] + (1,) + ONE[3:], OTHER[:2] + (0,) + OTHER[3:],
                                                 letters=(NOTE,)))
        # There is no letter of its number.
        self.quarrels(("taken", 1), self.logs_of(ONE, OTHER, letters=()))
        self.quarrels(("taken", 0), self.logs_of(ONE[:2] + (1,) + ONE[3:], letters=()))
        # Also where there is a letter of that number.
        later = (9, 12, 1, ((5, 0, 12),), ())
        logs = ((("sent", 0, NOTE), ("heard", 20, later), ("sent", 20, (2, ("note", 1)))), (("heard", 20, ONE),))
        self.quarrels(("taken", 5), logs + ((("heard", 20, (5, 9, 2, ((4, 0, 9),), ())),),))
        self.quarrels(("taken", 11), logs + ((("heard", 20, (10, 15, 2, ((6, 0, 15),), ())),),
                                             (("heard", 20, (11, 18, 1, ((7, 0, 18),), ())),)))
        # This ahead of what its marks tell, and of stamps that do not rise.
        self.quarrels(("taken", 1), self.logs_of(ONE, (1, 3, 2, ((9, 0, 9),), ())))

    def test_segments(self):
        self.quarrels(("segment", 0, 1), self.logs_of(ONE, (1, 4, 0, ((2, 0, 4),), ())))
        self.quarrels(("segment", 0, 7), self.logs_of(ONE, (7, 3, 0, ((2, 0, 3),), ())))
        for mark in (
            (1, 0, 4), (3, 0, 4), (2, 0, 3), (2, 0, 6), (3, 0, 8), (3, 0, 5), (5, 0, 9), (4, 0, 7), (4, 0, 10), (4, 1, 9),
            (4, 4, 9), (0, 0, None),
        ):
            self.quarrels(("segment", 0, 1), self.logs_of(ONE, (1, 9, 0, (mark,), ())))
        # The segment of the beginning.
        for mark in ((2, 0, 6), (2, 1, 4), (4, 0, 4), (1, 0, 4), (1, 0, 1), (0, 0, None), (2, 0, 1), (3, 0, 3)):
            self.quarrels(("segment", None, 0), self.logs_of((0, 4, 0, (mark,), ())))
        # With the letter: what it lets go by none of its takings, and what by all.
        self.quarrels(("segment", 0, 1), self.logs_of(ONE, (1, 9, 1, ((4, 2, 9),), ())))
        self.quarrels(("segment", 0, 1), self.logs_of(ONE, (1, 9, 1, ((4, 0, 9),), ()), letters=((1, ("free", 0, 9)),)))

    def test_values(self):
        crossed = ((0, (0, 1, 6, 6, 6)), (0, (0, 1, 7, 7, 7)))
        paper = ("values", 0, ("crossed", (0, 1, 6, 6, 6), (0, 1, 7, 7, 7)))
        self.quarrels(paper, self.logs_of((0, 4, 0, ((2, 0, 4),), crossed)))
        self.quarrels(paper, self.logs_of((0, 4, 0, ((2, 0, 4),), crossed[:1]), (3, 5, 0, ((2, 0, 4),), crossed[1:])))
        # Ahead of all segments; and by kind.
        self.quarrels(paper, self.logs_of((0, 4, 9, ((2, 0, 9),), crossed)))
        setup = (SETUP[0] * 2, (0, 4), (1, 2))
        more = tuple((1, span) for _, span in crossed)
        marks = ((2, 0, 4), (2, 0, 4))
        self.quarrels(paper, ((("heard", 9, (0, 4, 0, marks, more + crossed)),),), setup)
        self.quarrels(("values", 1, paper[2]), ((("heard", 9, (0, 4, 0, marks, more)),),), setup)
        unfit = ((0, (0, 1, 6, 6, 6)), (0, (1, 1, 6, 6, 6)))
        frames = ((0, 4, 0, ((2, 0, 4),), unfit), (1, 7, 0, ((3, 0, 7),), ((0, (0, 2, 11, 5, 6)),)))
        self.quarrels(("values", 0, ("unfit", (0, 2, 11, 5, 6))), self.logs_of(*frames))

    def test_unlike_frames_ahead_of_all(self):
        logs = self.logs_of(ONE, ONE[:4] + ((),), (1, 3, 9, ((9, 0, 9),), ()))
        self.quarrels(("frames", 0), logs)

    def test_segments_in_their_order(self):
        bad = (1, 9, 0, ((9, 0, 9),), ())
        more = (2, 9, 7, ((9, 0, 9),), ())
        self.quarrels(("segment", 0, 1), self.logs_of(ONE, bad, more))
        self.quarrels(("taken", 2), self.logs_of(ONE, (1, 9, 0, ((4, 0, 9),), ()), more))
        self.quarrels(("segment", None, 0), self.logs_of((0, 4, 0, ((9, 0, 4),), ()), bad, more))

    def test_offsets(self):
        logs = ((("heard", 9, ONE), ("sent", 22, FREE), ("heard", 17, OTHER))[:2] + (("heard", 27, OTHER),),)
        lots = (((1, 5),), ((14, 18),), ((14, 18),))
        self.fails(Quarrel, ("offsets", lots), offsets, SETUP, logs)
        for function in (past_rows, past_story):
            self.fails(Quarrel, ("offsets", lots), function, SETUP, logs, None)
        self.same(tuple(lot for _, _, lot in bindings(SETUP, logs)), lots)

    def test_wrong_inputs(self):
        for function, more in ((bindings, ()), (offsets, ()), (past_rows, (None,)), (past_story, (None,))):
            self.fails(BadSetup, 2, function, (SETUP[0], (0, 4), (2, 1)), None, *more)
            self.fails(BadLog, -1, function, SETUP, None, *more)
            self.fails(BadLog, (0, 1), function, SETUP, (LOGS[0][:1] + (None,),), *more)
            for logs in (((),), [[], []], ((("sent", 4, NOTE),),)):
                self.refuses(logs, function, SETUP, logs, *more)
        for value in NO_INTEGERS + (3, 6, -4, 256 ** 201):
            self.refuses(value, past_rows, SETUP, LOGS, value)
            self.refuses(value, past_story, SETUP, LOGS, value)


class ByForce(Case):
    def test_the_lot_is_that_of_all_stories(self):
        for setup, logs, now, present in flights(1, 60):
            self.assertEqual(integers(offsets(setup, logs)), present[0])
            later = {story[0] for story in all_stories(setup, logs, last_tick(logs))}
            self.assertEqual(later, present[0])

    def test_some_story_of_each(self):
        for setup, logs, _, present in flights(1, 60):
            frames, letters = frames_of(logs), letters_of(logs)
            for offset in sorted(present[0]):
                takings, stamps = past_rows(setup, logs, offset)
                story = past_story(setup, logs, offset)
                self.same(story, past_story(lists(setup), lists(logs), offset))
                self.assertIs(story_holds(setup, logs, last_tick(logs), story), True)
                self.assertTrue(plain_holds(setup, logs, last_tick(logs), story))
                self.same(story[0], offset)
                # No letter more is taken.
                self.same(story[1], takings + (None,) * (len(letters) - frames[-1][2]))
                self.same(len(takings), frames[-1][2])
                for kind, rows in enumerate(stamps):
                    self.same(len(rows), frames[-1][3][kind][0])
                    self.same(tuple(row[0] for row in story[2][kind])[:len(rows)], rows)

    def test_rows_are_parted_by_the_letter_that_was_taken(self):
        chance = random.Random(42)
        wide = 0
        for _ in range(250):
            setup, logs = pinned_logs(chance)
            now = last_tick(logs)
            (_, sent, (_, deed)), (_, _, (_, end, _, marks, _)) = logs[0][0], logs[1][0]
            stamps = set(range(end + 1))
            if deed[0] == "free":
                found = plain_takings(setup[0][1], (-1, (0, 0, None)), (end, marks[1]), deed[2])
                stamps = {stamp for had in found.values() for stamp in had}
            wanted = {sent - stamp for stamp in stamps if 0 <= now - end - sent + stamp <= setup[1][1]}
            self.assertEqual(integers(offsets(setup, logs)), wanted)
            wide += len(wanted) > 1
            for offset in sorted(wanted):
                story = past_story(setup, logs, offset)
                self.assertTrue(plain_holds(setup, logs, now, story))
                self.same(past_rows(setup, logs, offset)[0], story[1])
        self.assertGreater(wide, 100)

    def test_bent_logs(self):
        chance = random.Random(40)
        told = {}
        for _ in range(220):
            setup, flight = random_flight(chance, chance.randrange(4, 10))
            logs = bent(chance, frozen(flight.logs))
            if not are_logs(setup, logs) or not frames_of(logs):
                continue
            wanted = {story[0] for story in all_stories(setup, logs, last_tick(logs))}
            try:
                found, word = integers(offsets(setup, logs)), "lot"
            except Quarrel as error:
                found, word = set(), error.paper[0]
            self.assertEqual(found, wanted)
            told[word] = told.get(word, 0) + 1
        for word, many in (("lot", 40), ("segment", 20), ("offsets", 2)):
            self.assertGreater(told[word], many, told)

    def test_with_further_hearings_no_lot_is_wider(self):
        chance = random.Random(41)
        for setup, logs, _, present in flights(1, 60):
            fewer = tuple(tuple(row for row in log if row[0] == "sent" or chance.randrange(3)) for log in logs)
            if are_logs(setup, fewer) and frames_of(fewer):
                self.assertLessEqual(present[0], integers(offsets(setup, fewer)))


def long_logs(kinds, frames, rows, down, up, letters):
    """(setup, logs) of a flight of so many frames, so many rows between two of them, and perhaps letters, too."""
    setup = (tuple((1, 10, 2 + at) for at in range(kinds)), down, up)
    probe, log, stamp, offset = Probe(setup), [], 0, 100
    for at in range(frames):
        for row in range(rows):
            stamp += 1 + (row * at) % 5
            for kind in range(kinds):
                probe.lay(kind, stamp, (7 * stamp) % 23)
        if letters:
            letter = (probe.taken + 1, ("free", at % kinds, probe.marks()[at % kinds][1] + 1))
            log.append(("sent", stamp + offset - up[0], letter))
            probe.take(stamp, letter)
        places = [(kind, at % len(spans)) for kind, (_, _, spans) in enumerate(probe.stores) if spans]
        frame = probe.frame(stamp, places)
        log.append(("heard", stamp + offset + down[0], frame))
    return setup, (tuple(log),)


class Limits(Case):
    def test_sixty_rows_of_logs(self):
        setup, logs = long_logs(6, 30, 6, (0, 0), (0, 0), True)
        self.same(offsets(setup, logs), ((100, 100),))
        self.same(len(bindings(setup, logs)), 60)
        self.assertIs(story_holds(setup, logs, last_tick(logs), past_story(setup, logs, 100)), True)

    def test_four_thousand_offsets(self):
        setup, logs = long_logs(2, 1, 60, (0, 3999), (0, 10000), False)
        self.same(offsets(setup, logs), ((-3899, 100),))
        for offset in (-3899, 0, 100):
            self.assertIs(story_holds(setup, logs, last_tick(logs), past_story(setup, logs, offset)), True)

    def test_stamps_to_two_thousand(self):
        setup = (((1, 1000, 8), (1000, 1000, 2)), (0, 3), (0, 0))
        marks = [((60, 0, 999), (1, 0, 1000)), ((120, 0, 2000), (2, 0, 2000))]
        frames = ((4, 1000, 0, marks[0], ()), (9, 2000, 1, marks[1], ()))
        rows = [("sent", tick, (1, ("free", 0, 7))) for tick in range(1500, 1600, 10)]
        logs = (tuple(rows), (("heard", 1500, frames[0]),), (("heard", 2500, frames[1]),))
        lot = offsets(setup, logs)
        self.same(lot, ((497, 500),))
        self.same(taking_by_count(setup, *frames, ("free", 0, 7))[0], (0, (1001, 1940)))
        for offset in range(497, 501):
            self.assertIs(story_holds(setup, logs, 2500, past_story(setup, logs, offset)), True)
