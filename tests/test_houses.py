"""Points 68 to 70: houses apart."""

import itertools
import random
import time

from farstory.errors import BadLog, BadSetup, NoClass, NoRow, Quarrel
from farstory.houses import (
    enough_lots, is_enough, join_logs, lot_view, part_logs, sure_lots, tightest, view, view_gains)
from farstory.logs import last_tick
from tests.helping import NO_INTEGERS, NO_NUMBERS, ODD, Case, are_logs, lists
from tests.plain import flights, frames_of, plain_present, plain_word

SETUP = (((2, 3, 2),), (1, 3), (1, 1))
FRAME = (0, 2, 0, ((2, 0, 2),), ())
LOGS = tuple([(("heard", tick, FRAME),) for tick in (5, 4, 6)])
DEAF = ((), (), ())
# House 2 heard another frame of that number; houses 0 and 1 have no offset in common.
CROSSED = LOGS[:2] + ((("heard", 6, FRAME[:1] + (1,) + FRAME[2:]),),)
PARTED = (LOGS[0], (("heard", 9, FRAME),), ())
NO_LOTS = tuple(value for value in ODD if value != (0,)) + (
    (), (1,), (0, 3), (0, 0), (0, 2, 1), (1, 0), (0, True), (False,), (0, -1), (-1, 0), (0, None), "0", (0, 1, 2, 3))


def plain_view(setup, logs, now):
    """The view, all stories being gone through."""
    if not frames_of(logs):
        return None
    offsets, taken, _, stores = plain_present(setup, logs, now)
    lot = []
    for offset in sorted(offsets):
        if lot and lot[-1][1] == offset - 1:
            lot[-1] = (lot[-1][0], offset)
        else:
            lot.append((offset, offset))
    number = frames_of(logs)[-1][2] + 1
    out = any(row[0] == "sent" and row[2][0] == number for row in logs[0])
    marks = tuple(tuple(sorted((spans[0][0] if spans else laid, laid) for laid, spans in kind)) for kind in stores)
    return tuple(lot), ("open" if taken else "untaken") if out else None, marks


def plain_part(logs, lot):
    return tuple(log if house in lot else () for house, log in enumerate(logs))


def plain_lots(many):
    return [(0,) + more for count in range(many) for more in itertools.combinations(range(1, many), count)]


def least_lots(lots):
    return tuple(lot for lot in lots if not any(set(other) < set(lot) for other in lots))


class Wrong(Case):
    def test_logs(self):
        for function, more in ((part_logs, (None,)), (tightest, (None,)), (view, (None,)), (lot_view, (None, None)),
                               (view_gains, (None, None)), (is_enough, (None, None)), (enough_lots, (None,)),
                               (sure_lots, (None, None, None)), (join_logs, (None,))):
            self.fails(BadSetup, -1, function, None, None, *more)
            self.fails(BadLog, -1, function, SETUP, None, *more)
            self.fails(BadLog, (1, 0), function, SETUP, (LOGS[0], (None,)), *more)

    def test_now(self):
        for function, more in ((view, ()), (lot_view, (None,)), (view_gains, (None,)), (is_enough, (None,)),
                               (enough_lots, ()), (sure_lots, (None, None))):
            for logs in (LOGS, CROSSED):
                for value in NO_INTEGERS + (-1, 5):
                    self.refuses(value, function, SETUP, logs, value, *more)
            for value in NO_INTEGERS + (-1,):
                self.refuses(value, function, SETUP, DEAF, value, *more)
        # Ahead of the last row of all houses, also of those that are not of the lot.
        self.refuses(5, lot_view, SETUP, LOGS, 5, (0, 1))

    def test_lots(self):
        for value in NO_LOTS:
            self.refuses(value, part_logs, SETUP, LOGS, value)
            for logs in (LOGS, DEAF):
                for function in (lot_view, view_gains, is_enough):
                    self.refuses(value, function, SETUP, logs, 6, value)
            # The quarrels of all houses come first just where all are asked.
            for function in (lot_view, view_gains):
                self.refuses(value, function, SETUP, CROSSED, 6, value)
            self.fails(Quarrel, ("frames", 0), is_enough, SETUP, CROSSED, 6, value)

    def test_quarrels(self):
        parted = ("offsets", (((0, 2),), ((4, 6),)))
        for function, more in ((view, ()), (is_enough, ((0,),)), (enough_lots, ()), (sure_lots, (None, None))):
            self.fails(Quarrel, ("frames", 0), function, SETUP, CROSSED, 6, *more)
            self.fails(Quarrel, parted, function, SETUP, PARTED, 9, *more)
        self.fails(Quarrel, ("frames", 0), lot_view, SETUP, CROSSED, 6, (0, 2))
        self.fails(Quarrel, parted, lot_view, SETUP, PARTED, 9, (0, 1, 2))
        self.same(lot_view(SETUP, CROSSED, 6, (0, 1)), lot_view(SETUP, LOGS, 6, (0, 1)))
        # The lot's logs, then those with one house more, also if the lot heard nothing.
        self.fails(Quarrel, ("frames", 0), view_gains, SETUP, CROSSED, 6, (0, 2))
        self.fails(Quarrel, ("frames", 0), view_gains, SETUP, CROSSED, 6, (0,))
        self.fails(Quarrel, parted, view_gains, SETUP, PARTED, 9, (0, 2))
        self.fails(Quarrel, parted, view_gains, SETUP, ((),) + (LOGS[0] + PARTED[1],) + ((),), 9, (0,))

    def test_rows(self):
        for logs in (LOGS, DEAF):
            for value in NO_NUMBERS + (1, 2):
                self.fails(NoClass, value, sure_lots, SETUP, logs, 6, value, None)
            for value in NO_NUMBERS:
                self.fails(NoRow, value, sure_lots, SETUP, logs, 6, 0, value)
        for value in NO_NUMBERS + (3, 8):
            self.refuses(value, tightest, SETUP, LOGS, value)


class Reports(Case):
    def test_joined(self):
        self.same(join_logs(SETUP, (LOGS[0], (), LOGS[2]), (LOGS[0], LOGS[1], ())), LOGS)
        self.same(join_logs(lists(SETUP), lists((LOGS[0], (), LOGS[2])), lists((LOGS[0], LOGS[1], ()))), LOGS)
        self.same(join_logs(SETUP, DEAF, DEAF), DEAF)
        self.same(join_logs(SETUP, LOGS, LOGS), LOGS)
        # Whether they quarrel otherwise is not asked.
        self.same(join_logs(SETUP, CROSSED, DEAF), CROSSED)

    def test_wrong_reports(self):
        self.fails(BadLog, -1, join_logs, SETUP, LOGS, None)
        self.fails(BadLog, (2, 0), join_logs, SETUP, LOGS, LOGS[:2] + ((None,),))
        for other in (LOGS[:2], list(LOGS[:1]), LOGS + ((),)):
            self.refuses(other, join_logs, SETUP, LOGS, other)
        row = LOGS[0][0]
        for one, other in (((row,), (("heard", 6, FRAME),)), ((row, row), (row, ("heard", 6, FRAME))),
                           ((row, row), (("heard", 6, FRAME),))):
            for mine, yours in ((one, other), (other, one)):
                self.fails(Quarrel, ("logs", 1), join_logs, SETUP, ((row,), mine), ((), yours))
                self.fails(Quarrel, ("logs", 0), join_logs, SETUP, (mine, (row,)), (yours, (("heard", 6, FRAME),)))

    def test_whatever_the_order(self):
        chance = random.Random(68)
        for setup, logs, now, _ in flights(1, 60):
            reports = [tuple(log[:chance.randrange(len(log) + 1)] for log in logs) for _ in range(4)]
            longest = tuple(max([report[house] for report in reports], key=len) for house in range(len(logs)))
            for _ in range(4):
                chance.shuffle(reports)
                found = reports[0]
                for report in reports[1:] + reports[:2]:
                    found = join_logs(setup, found, report)
                self.same(found, longest)
                self.same(join_logs(setup, join_logs(setup, reports[0], reports[1]), join_logs(setup, reports[2], reports[3])), longest)

    def test_parts(self):
        self.same(part_logs(SETUP, LOGS, (0, 2)), (LOGS[0], (), LOGS[2]))
        self.same(part_logs(lists(SETUP), lists(LOGS), [0]), (LOGS[0], (), ()))
        self.same(part_logs(SETUP, LOGS, [0, 1, 2]), LOGS)

    def test_tightest(self):
        later = (1, 5, 0, ((3, 0, 5),), ())
        log = (("sent", 1, (1, ("note", 1))), ("heard", 5, FRAME), ("heard", 6, later), ("heard", 6, later), ("heard", 7, FRAME),
               ("heard", 7, FRAME))
        self.same(tightest(SETUP, (log, (), LOGS[0]), 0), (2, 4))
        self.same(tightest(lists(SETUP), lists((log, (), LOGS[0])), 2), (0, 0))
        self.same(tightest(SETUP, (log, (), LOGS[0]), 1), None)
        self.same(tightest(SETUP, (log[:1], ()), 0), None)

    def test_the_tightest_ones_bind_the_others(self):
        for setup, logs, now, _ in flights(1, 60):
            least, most = setup[1]
            for house, log in enumerate(logs):
                heard = [(row[1] - row[2][1], place) for place, row in enumerate(log) if row[0] == "heard"]
                found = tightest(setup, logs, house)
                self.same(found, (min(heard)[1], max(heard, key=lambda one: (one[0], -one[1]))[1]) if heard else None)
                for offset in range(-9, 20):
                    good = [least <= way - offset <= most for way, _ in heard]
                    if found is not None:
                        ends = [log[place][1] - log[place][2][1] for place in found]
                        self.same(all(good), all(least <= way - offset <= most for way in ends))


class Views(Case):
    def test_example(self):
        self.same(view(SETUP, LOGS, 6), (((1, 1),), None, (((0, 3),),)))
        self.same(view(lists(SETUP), lists(LOGS), 6), (((1, 1),), None, (((0, 3),),)))
        self.same(lot_view(SETUP, LOGS, 6, (0,)), (((0, 2),), None, (((0, 2), (0, 3), (0, 4)),)))
        self.same(view_gains(SETUP, LOGS, 6, (0,)), ((1, 1, (1,)), (2, 1, (1,))))
        self.same(view_gains(lists(SETUP), lists(LOGS), 6, [0]), ((1, 1, (1,)), (2, 1, (1,))))
        self.same(view_gains(SETUP, LOGS, 6, (0, 1, 2)), ())
        self.same(view_gains(SETUP, LOGS, 6, (0, 2)), ((1, 1, (1,)),))

    def test_without_a_frame(self):
        self.same(view(SETUP, DEAF, 0), None)
        self.same(view(SETUP, ((("sent", 3, (1, ("note", 1))),),), 3), None)
        logs = ((),) + LOGS[1:]
        self.same(lot_view(SETUP, logs, 6, (0,)), None)
        self.same(view_gains(SETUP, logs, 6, (0,)), ((1, None, None), (2, None, None)))
        self.same(view_gains(SETUP, DEAF, 6, (0, 1)), ((2, None, None),))

    def test_offsets_of_several_stretches(self):
        setup = (((1, 2, 2),), (0, 9), (0, 0))
        one, other = (0, 3, 0, ((4, 0, 3),), ()), (1, 4, 1, ((5, 0, 4),), ())
        copies = tuple(("sent", tick, (1, ("note", 7))) for tick in (4, 6, 9))
        logs = (copies + (("heard", 10, one), ("heard", 10, other)), (("heard", 5, other),))
        self.same(lot_view(setup, logs, 10, (0,))[0], ((0, 0), (2, 2), (5, 5)))
        self.same(view(setup, logs, 10)[0], ((0, 0),))
        self.same(view_gains(setup, logs, 10, (0,))[0][:2], (1, 2))

    def test_by_force(self):
        for setup, logs, now, _ in flights(1, 60):
            for lot in plain_lots(len(logs)):
                wanted = plain_view(setup, plain_part(logs, lot), now)
                self.same(lot_view(setup, logs, now, lot), wanted)
                gains = []
                for house in range(len(logs)):
                    if house not in lot:
                        more = plain_view(setup, plain_part(logs, lot + (house,)), now)
                        gains.append((house,) + self.plain_gain(wanted, more))
                self.same(view_gains(setup, logs, now, lot), tuple(gains))
            self.same(view(setup, logs, now), plain_view(setup, logs, now))

    def plain_gain(self, wanted, more):
        if wanted is None:
            return None, None
        fewer = sum(high - low + 1 for low, high in wanted[0]) - sum(high - low + 1 for low, high in more[0])
        return fewer, tuple(len(one) - len(other) for one, other in zip(wanted[2], more[2]))

    def test_a_greater_lot_tells_some_of_them(self):
        for setup, logs, now, _ in flights(1, 60):
            lots = plain_lots(len(logs))
            for lot, other in itertools.product(lots, lots):
                fewer, more = lot_view(setup, logs, now, lot), lot_view(setup, logs, now, other)
                if set(lot) < set(other) and fewer is not None:
                    self.assertTrue(all(any(low <= one <= high for low, high in fewer[0])
                                        for start, end in more[0] for one in range(start, end + 1)))
                    self.assertTrue(all(set(marks) >= set(less) for marks, less in zip(fewer[2], more[2])))


class Enough(Case):
    def test_example(self):
        self.same(enough_lots(SETUP, LOGS, 6), ((0, 1, 2),))
        self.same(sure_lots(SETUP, LOGS, 6, 0, 2), ((0, 1),))
        self.same(sure_lots(SETUP, LOGS, 6, 0, 3), ((0, 2),))
        self.same([is_enough(SETUP, LOGS, 6, lot) for lot in ((0,), (0, 1), (0, 1, 2), [0, 1, 2])], [False, False, True, True])
        self.same(enough_lots(lists(SETUP), lists(LOGS), 6), ((0, 1, 2),))

    def test_edges(self):
        # One house is enough; all are deaf.
        self.same(enough_lots(SETUP, LOGS[:1], 6), ((0,),))
        self.same(enough_lots(SETUP, DEAF, 6), ((0,),))
        self.same(is_enough(SETUP, DEAF, 6, (0,)), True)
        self.same(sure_lots(SETUP, DEAF, 6, 0, 0), ())
        self.same(sure_lots(SETUP, LOGS[:1], 6, 0, 2), ())
        self.same(sure_lots(SETUP, LOGS[:1], 6, 0, 99), ((0,),))
        # Houses that heard the same: each of them will do.
        logs = ((), LOGS[0], LOGS[0])
        self.same(enough_lots(SETUP, logs, 6), ((0, 1), (0, 2)))
        self.same(is_enough(SETUP, logs, 6, (0,)), False)
        self.same(sure_lots(SETUP, logs, 6, 0, 99), ((0, 1), (0, 2)))
        self.same(sure_lots(SETUP, logs, 6, 0, 0), ())

    def test_by_force(self):
        several = 0
        for setup, logs, now, present in flights(1, 60):
            lots = plain_lots(len(logs))
            views = {lot: plain_view(setup, plain_part(logs, lot), now) for lot in lots}
            good = [lot for lot in lots if views[lot] == views[lots[-1]]]
            self.same(enough_lots(setup, logs, now), least_lots(good))
            for lot in lots:
                self.same(is_enough(setup, logs, now, lot), lot in good)
            several += len(least_lots(good)) > 1
            for kind in range(len(setup[0])):
                stores = {lot: plain_present(setup, plain_part(logs, lot), now)[3][kind] for lot in lots if views[lot]}
                for row in range(max(laid for laid, _ in present[3][kind]) + 2):
                    sure = [lot for lot in stores if len({plain_word(store, row) for store in stores[lot]}) == 1]
                    self.same(sure_lots(setup, logs, now, kind, row), least_lots(sure))
        self.assertGreater(several, 2)

    def test_a_lot_has_one_of_these_within_it(self):
        chance, many = random.Random(70), 0
        for setup, logs, now, _ in flights(1, 60):
            # Four houses, as all heard some of what one heard.
            heard = sorted({row for log in logs for row in log if row[0] == "heard"}, key=lambda row: row[1])
            house = tuple(row for row in logs[0])
            more = [tuple(row for row in heard if chance.randrange(2)) for _ in range(3)]
            logs = (house, *more)
            if not are_logs(setup, logs) or last_tick(logs) > now:
                continue
            many += 1
            found = enough_lots(setup, logs, now)
            for lot in plain_lots(4):
                self.same(is_enough(setup, logs, now, lot), any(set(one) <= set(lot) for one in found))
        self.assertGreater(many, 50)


class Limits(Case):
    def test_four_houses(self):
        setup = (tuple((1, 40, keep) for keep in (2, 3)), (0, 19), (0, 19))
        frames = [(stamp, stamp, 0, ((stamp + 1, 0, stamp),) * 2, ()) for stamp in range(120, 160)]
        logs = tuple(tuple(("heard", frame[1] + 119, frame) for frame in frames[house % 4::4]) for house in range(4))
        logs = (logs[0] + (("sent", 279, (1, ("free", 0, 100000))),),) + logs[1:]
        start = time.time()
        self.same(len(view(setup, logs, 290)[2]), 2)
        self.same(len(view_gains(setup, logs, 290, (0,))), 3)
        self.assertGreaterEqual(len(enough_lots(setup, logs, 290)), 1)
        sure_lots(setup, logs, 290, 1, 150)
        self.assertLess(time.time() - start, 20)
