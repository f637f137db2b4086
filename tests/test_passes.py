"""Points 59 to 61: passes."""

import itertools
import random
import time

from farstory.errors import BadFrame, BadLog, BadSetup, Quarrel
from farstory.passes import all_aboard, fewest_frames, known_ticks, lack, laid_when, life, plan_holds, plan_of
from tests.helping import NO_INTEGERS, NO_NUMBERS, NO_SEQUENCES, ODD, Case, lists
from tests.plain import flights, frames_of, plain_free, plain_lay

SETUP = (((2, 3, 2),), (1, 2), (1, 1))
FRAME = (0, 9, 0, ((5, 0, 8),), ())
STAMPS = (10, 11, 12)
WANTED = ((0, 0, 2), (0, 2, 2), (0, 4, 1))
PLAN = (((0, 4, 1),), ((0, 0, 2), (0, 2, 2)))
LOGS = ((("heard", 16, FRAME),),)
PASS = (SETUP, FRAME, STAMPS, 2, 0, WANTED)
# No sequence of three names of these spans.
NO_NAMES = tuple(value for value in ODD if value not in ((), [])) + (
    (None,), ((0, 0, 1),), ((0, 0, 2), (0, 0, 2)), ((0, 2, 2), (0, 0, 2)), ((1, 0, 2),), ((False, 0, 2),), ((0, 0, 2, 0),),
    ((0, 0),), (0, 0, 2), "abc")


def frame_at(chance, setup, end):
    """A frame that a probe, led at random, can send at this stamp, and by kind the (first, many) aboard."""
    marks, stores = [], []
    for gap, pause, keep in setup[0]:
        last, laid, spans = None, 0, []
        while True:
            least, most = (0, pause) if last is None else (last + gap, last + pause)
            stamp = chance.randrange(least, most + 1)
            if stamp > end:
                break
            spans, laid, last = plain_lay(spans, keep, laid), laid + 1, stamp
            if chance.randrange(6) == 0:
                spans = plain_free(spans, chance.randrange(laid + 2))
        marks.append((laid, spans[0][0] if spans else laid, last))
        stores.append(spans)
    return (0, end, 0, tuple(marks), ()), stores


def rows_ahead(kind, mark, stamp, many):
    """All stamps of so many rows behind a frame, row by row."""
    gap, pause, _ = kind
    last = mark[2]
    ways = [()]
    for _ in range(many):
        longer = []
        for way in ways:
            ahead = way[-1] if way else last
            least, most = (0, pause) if ahead is None else (ahead + gap, ahead + pause)
            longer += [way + (at,) for at in range(least, most + 1) if at > stamp]
        ways = longer
    return ways


def until_joined(keep, spans, laid, place):
    """With how many rows more a span is there no more."""
    rows = 0
    while place in spans:
        spans = plain_lay(spans, keep, laid + rows)
        rows += 1
    return rows


def plain_life(kind, mark, stamp, spans, place):
    rows = until_joined(kind[2], spans, mark[0], place)
    ends = {way[-1] for way in rows_ahead(kind, mark, stamp, rows)}
    return rows, min(ends), max(ends)


def subsets(names, room):
    return [some for many in range(min(room, len(names)) + 1) for some in itertools.combinations(names, many)]


def plain_fewest(ends, room, times, stamps):
    """How few frames some plan has, all plans being gone through: what is told how often, frame by frame."""
    ways = {tuple(0 for _ in ends)}
    for place in range(len(stamps) + 1):
        if any(all(count >= times for count in told) for told in ways):
            return place
        there = [at for at, end in enumerate(ends) if end > place]
        more = set()
        for told in ways:
            for some in subsets(there, room):
                more.add(tuple(min(times, count + (at in some)) for at, count in enumerate(told)))
        ways = more
    return None


def small_passes(chance, many):
    """(setup, frame, stores, stamps, room, lost, wanted) of small passes."""
    for _ in range(many):
        kinds = []
        for _ in range(chance.randrange(1, 3)):
            gap = chance.randrange(1, 6)
            kinds.append((gap, gap + chance.randrange(2), chance.choice((2, 3, 3))))
        setup = (tuple(kinds), (1, 2), (1, 1))
        end = chance.randrange(1, 30)
        frame, stores = frame_at(chance, setup, end)
        stamps = sorted(chance.sample(range(end + 1, end + 9), chance.choice((0, 1, 2, 3, 4, 5, 6))))
        names = [(kind, *place) for kind, spans in enumerate(stores) for place in spans]
        wanted = sorted(chance.sample(names, min(len(names), chance.randrange(6))))
        yield setup, frame, stores, tuple(stamps), chance.randrange(1, 4), chance.choice((0, 0, 1, 2)), tuple(wanted)


def plain_ends(setup, frame, stores, stamps, wanted):
    ends = []
    for kind, *place in wanted:
        soonest = plain_life(setup[0][kind], frame[3][kind], frame[1], stores[kind], tuple(place))[1]
        ends.append(len([stamp for stamp in stamps if stamp < soonest]))
    return ends


class LaidWhen(Case):
    def test_wrong(self):
        for value in NO_NUMBERS + (0, 1, 9):
            self.refuses(value, laid_when, value, None, None, None)
        for value in NO_NUMBERS:
            self.refuses(value, laid_when, 2, value, None, None)
        for value in NO_NUMBERS + (0, 2):
            self.refuses(value, laid_when, 2, 3, value, None)
        for value in NO_NUMBERS + (0,):
            self.refuses(value, laid_when, 2, 3, 3, value)

    def test_example(self):
        self.same(laid_when(3, 2, 9, 4), 16)
        self.same([laid_when(2, 0, 0, many) for many in (1, 2, 3, 4, 5, 8)], [1, 3, 7, 7, 15, 15])
        self.same(laid_when(8, 0, 10 ** 6, 1), 10 ** 6 + 1)

    def test_beside_stores(self):
        for keep in (2, 3, 5, 8):
            for first in (0, 1, 3):
                spans, found = [], {}
                for row in range(first, first + 90):
                    spans = plain_lay(spans, keep, row)
                    for start, size in spans:
                        for inside in range(start, start + size):
                            for many in range(1, size + 1):
                                found.setdefault((inside, many), row + 1)
                for (row, many), laid in found.items():
                    self.assertEqual(laid_when(keep, first, row, many), laid)
                self.assertGreater(len(found), 90)


class Wrong(Case):
    def test_frames(self):
        for function, more in ((all_aboard, ()), (life, (None,)), (fewest_frames, (None,) * 4), (plan_of, (None,) * 4),
                               (lack, (None,) * 5), (plan_holds, (None,) * 5)):
            self.fails(BadSetup, -1, function, None, None, *more)
            self.fails(BadFrame, -1, function, SETUP, None, *more)
            self.fails(BadFrame, 1, function, SETUP, (0, -1) + FRAME[2:], *more)
            # The last row lies behind the frame; the next one cannot; the first one ought to be there.
            for frame in ((0, 7) + FRAME[2:], (0, 11) + FRAME[2:], (0, 3, 0, ((0, 0, None),), ())):
                self.refuses(frame, function, SETUP, frame, *more)
                self.refuses(lists(frame), function, SETUP, lists(frame), *more)
        for frame in ((0, 8) + FRAME[2:], (0, 10) + FRAME[2:], (0, 2, 0, ((0, 0, None),), ())):
            all_aboard(SETUP, frame)
        # Of the second kind.
        setup = (SETUP[0] * 2,) + SETUP[1:]
        frame = (0, 9, 0, ((5, 0, 8), (5, 0, 6)), ())
        self.refuses(frame, all_aboard, setup, frame)

    def test_spans(self):
        for value in ODD + ((0, 0, 1), (0, 1, 1), (1, 0, 2), (0, 0), (0, 0, 2, 0), (False, 0, 2), (0, 4, True), "abc"):
            self.refuses(value, life, SETUP, FRAME, value)

    def test_passes(self):
        bad_stamps = NO_SEQUENCES + ((None,), (9, 10), (10, 10), (11, 10), (True,), ("a",), tuple(range(10, 211)))
        for function, more in ((fewest_frames, ()), (plan_of, ()), (lack, (None,)), (plan_holds, (None,))):
            for value in bad_stamps:
                self.refuses(value, function, SETUP, FRAME, value, None, None, None, *more)
            for value in NO_NUMBERS + (0, 101):
                self.refuses(value, function, SETUP, FRAME, STAMPS, value, None, None, *more)
            for value in NO_NUMBERS + (200, 256 ** 3):
                self.refuses(value, function, SETUP, FRAME, STAMPS, 1, value, None, *more)
            for value in NO_NAMES:
                self.refuses(value, function, SETUP, FRAME, STAMPS, 1, 0, value, *more)
        for value in NO_NUMBERS + (4, 200):
            self.refuses(value, lack, *PASS, value)
        for value in NO_NUMBERS + (1,):
            self.refuses(value, lack, SETUP, FRAME, (), 1, 0, (), value)
        self.same(lack(SETUP, FRAME, tuple(range(10, 210)), 100, 199, (), 200), None)

    def test_known_ticks(self):
        self.fails(BadSetup, -1, known_ticks, None, None, None, None, None, None, None)
        self.fails(BadLog, -1, known_ticks, SETUP, None, None, None, None, None, None)
        for logs in (((), ()), [[], []]):
            self.refuses(logs, known_ticks, SETUP, logs, None, None, None, None, None)
        parted = (LOGS[0], (("heard", 19, FRAME),))
        self.fails(Quarrel, ("offsets", (((5, 6),), ((8, 9),))), known_ticks, SETUP, parted, None, None, None, None, None)
        self.refuses((9,), known_ticks, SETUP, LOGS, (9,), None, None, None, None)
        self.refuses(None, known_ticks, SETUP, LOGS, STAMPS, None, None, None, None)
        self.refuses(None, known_ticks, SETUP, LOGS, STAMPS, 2, None, None, None)
        self.refuses(None, known_ticks, SETUP, LOGS, STAMPS, 2, 0, None, None)
        for value in ODD + (PLAN[:1], (WANTED,), PLAN + ((), ())):
            self.refuses(value, known_ticks, SETUP, LOGS, STAMPS, 2, 0, WANTED, value)
        for value in ODD:
            if value not in ((), [], ((),)):
                self.refuses(value, known_ticks, SETUP, LOGS, STAMPS, 2, 0, (), value)


class Lives(Case):
    def test_example(self):
        self.same(all_aboard(SETUP, FRAME), WANTED)
        self.same(all_aboard(lists(SETUP), lists(FRAME)), WANTED)
        self.same(life(SETUP, FRAME, (0, 4, 1)), (2, 12, 14))
        self.same(life(lists(SETUP), lists(FRAME), [0, 4, 1]), (2, 12, 14))
        self.same(life(SETUP, FRAME, (0, 0, 2)), (2, 12, 14))
        # No row is laid at the frame's stamp any more.
        self.same(life(SETUP, (0, 10) + FRAME[2:], (0, 4, 1)), (2, 13, 14))
        self.same(all_aboard(SETUP, (0, 2, 0, ((0, 0, None),), ())), ())
        self.same(all_aboard(SETUP, (0, 9, 1, ((5, 5, 8),), ())), ())

    def test_by_force(self):
        chance, many = random.Random(59), 0
        for setup, frame, stores, _, _, _, _ in small_passes(chance, 150):
            names = [(kind, *place) for kind, spans in enumerate(stores) for place in spans]
            self.same(all_aboard(setup, frame), tuple(names))
            for kind, *place in names:
                if until_joined(setup[0][kind][2], stores[kind], frame[3][kind][0], tuple(place)) < 9:
                    many += 1
                    self.same(life(setup, frame, (kind, *place)),
                              plain_life(setup[0][kind], frame[3][kind], frame[1], stores[kind], tuple(place)))
        self.assertGreater(many, 200)


class Plans(Case):
    def test_example(self):
        self.same(fewest_frames(*PASS), 2)
        self.same(plan_holds(*PASS, PLAN), True)
        self.same(plan_holds(*lists(PASS), lists(PLAN)), True)
        self.same(plan_of(SETUP, FRAME, STAMPS, 2, 1, WANTED), ("lack", 1))
        self.same(lack(*PASS, 1), 1)
        self.same([lack(*PASS, many) for many in (0, 2, 3)], [0, None, None])
        word, plan = plan_of(*PASS)
        self.same((word, len(plan), plan_holds(*PASS, plan)), ("plan", 2, True))

    def test_edges(self):
        # No stamps, nothing wanted, as many lost frames as there are.
        self.same(plan_of(SETUP, FRAME, (), 1, 0, ()), ("plan", ()))
        self.same(fewest_frames(SETUP, FRAME, (), 1, 199, ()), 0)
        self.same(plan_of(SETUP, FRAME, (), 1, 0, WANTED[:1]), ("lack", 0))
        self.same(fewest_frames(SETUP, FRAME, (), 1, 0, WANTED[:1]), None)
        self.same(plan_of(SETUP, FRAME, STAMPS, 3, 3, ()), ("plan", ()))
        self.same(plan_of(SETUP, FRAME, STAMPS, 3, 3, WANTED), ("lack", 0))
        self.same(plan_of(SETUP, FRAME, STAMPS[:2], 3, 1, WANTED), ("plan", (WANTED, WANTED)))
        self.same(plan_of(SETUP, FRAME, STAMPS[:2], 3, 2, WANTED), ("lack", 0))
        # At stamp 12 a span may be a part of a longer one.
        self.same(fewest_frames(SETUP, FRAME, (11,), 3, 0, WANTED), 1)
        self.same(fewest_frames(SETUP, FRAME, (12,), 3, 0, WANTED), None)

    def test_what_is_no_plan(self):
        good = (PLAN, PLAN + ((),), ((WANTED[0], WANTED[1]), (WANTED[0], WANTED[2])), lists(PLAN), ((), *PLAN)[1:])
        for plan in good:
            self.same(plan_holds(*PASS, plan), True)
        bad = (
            PLAN[:1], PLAN[1:], (), ((), *PLAN), PLAN + ((), ()), (WANTED, ()), ((WANTED[2],), (WANTED[1], WANTED[0])),
            ((WANTED[2], WANTED[2]), PLAN[1]), (PLAN[0], ((0, 0, 2), (0, 2, 2), (0, 4, 1))), (PLAN[0], PLAN[1], ((0, 4, 1),)),
            (((False, 4, 1),), PLAN[1]), (((0, 4, True),), PLAN[1]), (PLAN[0], None), (None, PLAN[1]), (((0, 4),), PLAN[1]),
            (((0, 3, 1),), PLAN[1]), "ab", ("a", "b"))
        for plan in bad + ODD:
            self.same(plan_holds(*PASS, plan), False)
        # Just what is wanted is told.
        self.same(plan_holds(SETUP, FRAME, STAMPS, 2, 0, WANTED[:1], PLAN), False)
        self.same(plan_holds(SETUP, FRAME, STAMPS, 2, 0, (), ((), (), ())), True)
        self.same(plan_holds(SETUP, FRAME, STAMPS, 2, 0, (), ((), (), (), ())), False)
        # In more than `lost` frames.
        self.same(plan_holds(SETUP, FRAME, STAMPS, 3, 1, WANTED, (WANTED, WANTED)), True)
        self.same(plan_holds(SETUP, FRAME, STAMPS, 3, 1, WANTED, (WANTED, WANTED[:2])), False)

    def test_by_force(self):
        chance = random.Random(60)
        plans = lacks = several = 0
        for setup, frame, stores, stamps, room, lost, wanted in small_passes(chance, 700):
            task = (setup, frame, stamps, room, lost, wanted)
            ends = plain_ends(setup, frame, stores, stamps, wanted)
            fewest = plain_fewest(ends, room, lost + 1, stamps)
            self.same(fewest_frames(*task), fewest)
            word, found = plan_of(*task)
            if fewest is None:
                lacks += 1
                self.same((word, found), ("lack", lack(*task, len(stamps))))
                self.assertIsNotNone(found)
            else:
                plans, several = plans + 1, several + (fewest > 1)
                self.same((word, len(found)), ("plan", fewest))
                self.same(plan_holds(*task, found), True)
                self.assertTrue(self.is_plan(ends, room, lost, wanted, found))
            for many in range(len(stamps) + 1):
                short = [t for t in range(many + 1) if room * t + sum(
                    min(lost + 1, len([at for at in range(t, many) if at < end])) for end in ends) < (lost + 1) * len(ends)]
                self.same(lack(*task, many), short[0] if short else None)
                self.same(short == [], fewest is not None and fewest <= many)
        self.assertGreater(min(plans, lacks, several), 50)

    def is_plan(self, ends, room, lost, wanted, plan):
        counts = {name: 0 for name in wanted}
        for place, names in enumerate(plan):
            if len(names) > room or list(names) != sorted(set(names)):
                return False
            for name in names:
                if place >= ends[wanted.index(name)]:
                    return False
                counts[name] += 1
        return all(count > lost for count in counts.values())

    def test_plans_by_force(self):
        # Whatever a plan can be, told frame by frame, holds just if each wanted span is told often enough.
        chance, good = random.Random(61), 0
        for setup, frame, stores, stamps, room, lost, wanted in small_passes(chance, 60):
            ends = plain_ends(setup, frame, stores, stamps, wanted)
            for _ in range(30):
                plan = tuple(tuple(sorted(name for name in wanted if chance.randrange(4)))
                             for _ in range(chance.randrange(len(stamps) + 2)))
                holds = len(plan) <= len(stamps) and self.is_plan(ends, room, lost, wanted, plan)
                self.same(plan_holds(setup, frame, stamps, room, lost, wanted, plan), holds)
                good += holds and len(wanted) > 0
        self.assertGreater(good, 20)

    def test_all_is_told_whatever_is_lost(self):
        chance, many = random.Random(62), 0
        for setup, frame, stores, stamps, room, lost, wanted in small_passes(chance, 300):
            word, plan = plan_of(setup, frame, stamps, room, lost, wanted)
            if word == "lack" or not wanted:
                continue
            many += 1
            # Rows are laid as they like: what the plan tells is aboard at each frame.
            ways = [chance.choice(rows_ahead(kind, mark, frame[1], 4)) for kind, mark in zip(setup[0], frame[3])]
            for stamp, names in zip(stamps, plan):
                for kind, *place in names:
                    spans, laid = stores[kind], frame[3][kind][0]
                    for at, later in enumerate(ways[kind]):
                        if later <= stamp:
                            spans = plain_lay(spans, setup[0][kind][2], laid + at)
                    self.assertIn(tuple(place), spans)
            for gone in itertools.combinations(range(len(plan)), min(lost, len(plan))):
                heard = {name for place, names in enumerate(plan) if place not in gone for name in names}
                self.assertEqual(heard, set(wanted))
        self.assertGreater(many, 60)


class KnownTicks(Case):
    def test_example(self):
        self.same(known_ticks(SETUP, LOGS, STAMPS, 2, 0, WANTED, PLAN), (17, 19))
        self.same(known_ticks(lists(SETUP), lists(LOGS), STAMPS, 2, 0, lists(WANTED), lists(PLAN)), (17, 19))
        self.same(known_ticks(SETUP, LOGS, STAMPS, 2, 0, (), ()), None)
        self.same(known_ticks(SETUP, LOGS, STAMPS, 2, 0, (), ((), ())), None)
        # As soon as it can be none is lost, at the latest the first ones are.
        twice = (WANTED, WANTED)
        self.same(known_ticks(SETUP, LOGS, STAMPS, 3, 0, WANTED, twice), (16, 18))
        self.same(known_ticks(SETUP, LOGS, STAMPS, 3, 1, WANTED, twice), (16, 19))
        # However late the logs' last row is, and whatever they tell already.
        late = (LOGS[0] + (("sent", 10 ** 9 - 1, (1, ("note", 0))),),)
        self.same(known_ticks(SETUP, late, STAMPS, 3, 1, WANTED, twice), (16, 19))

    def test_ticks_below_0_and_far(self):
        setup = (SETUP[0], (0, 10000), (1, 1))
        logs = ((("heard", 0, FRAME),),)
        self.same(known_ticks(setup, logs, STAMPS, 3, 0, WANTED, (WANTED,)), (-9999, 10001))
        logs = ((("heard", 10 ** 9 - 1, FRAME),),)
        self.same(known_ticks(SETUP, logs, STAMPS, 3, 0, WANTED, (WANTED,)), (10 ** 9 - 1, 10 ** 9 + 1))

    def test_by_force(self):
        chance, many = random.Random(63), 0
        for setup, logs, now, present in flights(1, 60):
            frame = frames_of(logs)[-1]
            names = all_aboard(setup, frame)
            stamps = tuple(range(frame[1] + 1, frame[1] + 4))
            wanted = tuple(sorted(chance.sample(names, min(len(names), 2))))
            room, lost = chance.randrange(1, 3), chance.randrange(2)
            word, plan = plan_of(setup, frame, stamps, room, lost, wanted)
            if word == "lack":
                continue
            found = known_ticks(setup, logs, stamps, room, lost, wanted, plan)
            if not wanted:
                self.same(found, None)
                continue
            many += 1
            ticks = self.all_ticks(setup, present[0], stamps, lost, wanted, plan)
            self.same(found, (min(ticks), max(ticks)))
        self.assertGreater(many, 20)

    def all_ticks(self, setup, offsets, stamps, lost, wanted, plan):
        """All ticks at which frames heard first tell all: whichever are lost, however long each is on its way."""
        ticks = set()
        least, most = setup[1]
        for offset in offsets:
            for count in range(lost + 1):
                for gone in itertools.combinations(range(len(plan)), min(count, len(plan))):
                    left = [place for place in range(len(plan)) if place not in gone]
                    for ways in itertools.product(range(least, most + 1), repeat=len(left)):
                        heard = {place: stamps[place] + offset + way for place, way in zip(left, ways)}
                        ticks.add(max(min(heard[place] for place in left if name in plan[place]) for name in wanted))
        return ticks


class Limits(Case):
    def test_great_passes(self):
        setup = (tuple((1, 1000, keep) for keep in (2, 3, 4, 5, 6, 8)), (0, 19), (0, 19))
        frame = (0, 99999, 0, ((10000, 0, 99999),) * 6, ())
        stamps = tuple(range(100000, 100200))
        wanted = all_aboard(setup, frame)
        self.assertGreater(len(wanted), 250)
        start = time.time()
        for room, lost in ((100, 0), (20, 0), (3, 0), (7, 1), (100, 5), (1, 199)):
            task = (setup, frame, stamps, room, lost, wanted)
            word, found = plan_of(*task)
            if word == "plan":
                self.same(plan_holds(*task, found), True)
                self.same(len(found), fewest_frames(*task))
                self.assertIsNotNone(lack(*task, len(found) - 1))
            else:
                self.same(fewest_frames(*task), None)
        elder = tuple(name for name in wanted if name[2] > 64)
        task = (setup, frame, stamps, 100, 60, elder)
        word, found = plan_of(*task)
        self.same((word, plan_holds(*task, found)), ("plan", True))
        self.assertLess(time.time() - start, 20)
