"""Points 62 to 64: what parts."""

import functools
import random
import time

from farstory.errors import BadLog, BadSetup, NoClass, NoRow, Quarrel
from farstory.parting import (
    joining_ticks, laid_ticks, laid_word, letter_stamps, parting, parting_holds, parting_stamps, telling)
from farstory.passes import laid_when
from tests.helping import NO_INTEGERS, NO_NUMBERS, ODD, Case, lists
from tests.plain import (
    all_stories, frames_of, frees_of, frozen, letters_of, parted_logs, plain_out, random_flight, store_at)

SETUP = (((2, 3, 2),), (1, 2), (1, 3))
EVEN = (SETUP[0], (1, 1), (1, 3))
FRAME = (0, 9, 0, ((5, 0, 8),), ())
LOGS = ((("heard", 16, FRAME),),)
OUT = (LOGS[0] + (("sent", 20, (1, ("note", 3))),),)
DEAF = ((), ())
PAPER = (5, 8, 17, (5, 11), (6, 11))
# What asks of rows, and what is passed behind them.
OF_ROWS = ((laid_ticks, (None,)), (laid_word, (None, None)), (joining_ticks, (None, None)))
OF_FRAMES = ((parting, (None, None, None)), (parting_holds, (None,) * 4), (parting_stamps, (None,) * 4))
OF_LETTERS = ((letter_stamps, ()), (telling, (None,)))


@functools.lru_cache(maxsize=None)
def ahead(first, many, with_letter):
    """(setup, logs, stamp of the last frame, all stories of the rows far behind it), of one kind and few stamps.

    A story: (offset, takings, stamps of rows).
    """
    found, seed = [], first
    while len(found) < many:
        chance = random.Random(seed)
        seed += 1
        setup, flight = random_flight(chance, chance.randrange(3, 9), 1, 4)
        logs = frozen(flight.logs)
        frames = frames_of(logs)
        if not frames or (plain_out(frames, letters_of(logs)) != []) != with_letter or frames[-1][1] > 6:
            continue
        last = max(row[1] for log in logs for row in log)
        stories = list(all_stories(setup, logs, last))
        offsets = {story[0] for story in stories}
        # Wherever a letter comes, and up to which stamp it is asked, stories are told beyond.
        end = max([last + setup[2][1], frames[-1][1] + 5 + max(offsets)])
        if end - min(offsets) > 14:
            continue
        told = [(offset, takings, stamps) for offset, takings, fitting in all_stories(setup, logs, end)
                for stamps in fitting[0]]
        found.append((setup, logs, frames[-1], end, told))
    return found


def mark_at(setup, logs, story, stamp):
    """(laid, last) of a story at a stamp, and how many letters were taken."""
    stamps = [at for at in story[2] if at <= stamp]
    return (len(stamps), stamps[-1] if stamps else None), len([1 for at in story[1] if at is not None and at <= stamp])


def later_rows(kind, stamps, many):
    """All ways in which rows can go on, the next one being the one behind these, so many more."""
    gap, pause, _ = kind
    ways = [stamps]
    for _ in range(many):
        ways = [way + (at,) for way in ways
                for at in (range(way[-1] + gap, way[-1] + pause + 1) if way else range(pause + 1))]
    return ways


class Wrong(Case):
    def test_logs(self):
        parted = (LOGS[0], (("heard", 19, FRAME),))
        for function, more in OF_ROWS + OF_FRAMES:
            self.fails(BadSetup, -1, function, None, None, None, *more)
            self.fails(BadLog, -1, function, SETUP, None, None, *more)
            for logs in (DEAF, lists(DEAF)):
                self.refuses(logs, function, SETUP, logs, None, *more)
            self.fails(Quarrel, ("offsets", (((5, 6),), ((8, 9),))), function, SETUP, parted, None, *more)
            for value in NO_NUMBERS + (1, 2):
                self.fails(NoClass, value, function, SETUP, LOGS, value, *more)
        for function, more in OF_LETTERS:
            self.fails(BadSetup, -1, function, None, None, *more)
            self.fails(BadLog, -1, function, SETUP, None, *more)
            for logs in (DEAF, lists(DEAF), LOGS, lists(LOGS), ((("sent", 3, (1, ("note", 3))),),)):
                self.refuses(logs, function, SETUP, logs, *more)
            self.fails(Quarrel, ("offsets", (((5, 6),), ((8, 9),))), function, SETUP, parted, *more)
            self.fails(Quarrel, ("offsets", (((5, 6),), ((8, 9),))), function, SETUP, (OUT[0], parted[1]), *more)
        # A letter that is told as taken is not out.
        told = ((("sent", 5, (1, ("note", 3))), ("heard", 16, FRAME[:2] + (1,) + FRAME[3:])),)
        self.refuses(told, letter_stamps, SETUP, told)

    def test_rows(self):
        for function, more in OF_ROWS[:2] + OF_FRAMES:
            for value in NO_NUMBERS + (0, 4):
                self.fails(NoRow, value, function, SETUP, LOGS, 0, value, *more[1:])
        gone = ((("heard", 16, (0, 9, 1, ((5, 2, 8),), ())), ), (("heard", 16, (0, 9, 1, ((5, 2, 8),), ())),))
        gone = ((("sent", 9, (1, ("free", 0, 2))),) + gone[0],)
        for value in NO_NUMBERS + (0, 1):
            self.fails(NoRow, value, joining_ticks, SETUP, gone, 0, value, None)
        for value in NO_NUMBERS + (0,):
            self.refuses(value, joining_ticks, SETUP, gone, 0, 2, value)
            self.refuses(value, joining_ticks, SETUP, LOGS, 0, 0, value)

    def test_letters_that_are_out(self):
        for function, more in OF_FRAMES:
            self.refuses(OUT, function, SETUP, OUT, None, *more)
            self.refuses(lists(OUT), function, SETUP, lists(OUT), None, *more)
        # What speaks of rows alone does not ask for it.
        self.same(laid_ticks(SETUP, OUT, 0, 5), (15, 17))

    def test_ticks_and_stamps(self):
        for value in NO_INTEGERS:
            self.refuses(value, laid_word, SETUP, LOGS, 0, 5, value)
            for function, more in OF_FRAMES:
                self.refuses(value, function, SETUP, LOGS, 0, 5, value, *more[2:])
        for value in NO_NUMBERS + (0, 9):
            for function, more in OF_FRAMES:
                self.refuses(value, function, SETUP, LOGS, 0, 5, 16, value, *more[3:])
            self.refuses(value, telling, SETUP, OUT, value)
        for value in NO_NUMBERS + (0, 11, 112):
            self.refuses(value, parting_stamps, SETUP, LOGS, 0, 5, 16, 12, value)
        self.same(len(parting_stamps(SETUP, LOGS, 0, 5, 10 ** 9, 12, 111)), 100)


class Laid(Case):
    def test_example(self):
        self.same(laid_ticks(SETUP, LOGS, 0, 5), (15, 17))
        self.same(laid_ticks(lists(SETUP), lists(LOGS), 0, 5), (15, 17))
        self.same([laid_word(SETUP, LOGS, 0, 5, tick) for tick in (-9, 14, 15, 16, 17, 10 ** 12)],
                  ["later", "later", "open", "open", "laid", "laid"])
        self.same(joining_ticks(SETUP, LOGS, 0, 4, 2), (6, 17, 20))
        self.same(joining_ticks(lists(SETUP), lists(LOGS), 0, 4, 2), (6, 17, 20))
        self.same([joining_ticks(SETUP, LOGS, 0, 0, many) for many in (1, 2)], [None, None])
        self.same([joining_ticks(SETUP, LOGS, 0, 0, many) for many in (3, 4)], [(6, 17, 20)] * 2)
        self.same(joining_ticks(SETUP, LOGS, 0, 4, 1), None)
        # Rows that are not laid yet come into a span of one row with their own laying.
        self.same(joining_ticks(SETUP, LOGS, 0, 7, 1), (7, *laid_ticks(SETUP, LOGS, 0, 7)))

    def test_nothing_is_aboard(self):
        frame = (0, 9, 1, ((5, 5, 8),), ())
        logs = ((("sent", 12, (1, ("free", 0, 9))), ("heard", 16, frame)),)
        self.fails(NoRow, 4, joining_ticks, SETUP, logs, 0, 4, 1)
        self.same(joining_ticks(SETUP, logs, 0, 5, 1)[0], 5)
        self.same(joining_ticks(SETUP, logs, 0, 5, 2)[0], laid_when(2, 5, 5, 2) - 1)

    def test_ticks_below_0_and_far(self):
        setup = (SETUP[0], (0, 10000), (1, 1))
        self.same(laid_ticks(setup, ((("heard", 0, FRAME),),), 0, 5), (-9999, 2))
        self.same(laid_word(setup, ((("heard", 0, FRAME),),), 0, 5, -10000), "later")
        self.same(laid_ticks(SETUP, ((("heard", 10 ** 9 - 1, FRAME),),), 0, 5), (10 ** 9 - 2, 10 ** 9))

    def test_by_force(self):
        for with_letter in (False, True):
            for setup, logs, frame, end, told in ahead(1, 40, with_letter):
                laid, first, _ = frame[3][0]
                for row in range(laid, laid + 3):
                    ticks = set()
                    for offset, _, stamps in told:
                        ticks.update(way[row] + offset for way in later_rows(setup[0][0], stamps, max(0, row + 1 - len(stamps))))
                    self.same(laid_ticks(setup, logs, 0, row), (min(ticks), max(ticks)))
                    for tick in range(min(ticks) - 2, max(ticks) + 3):
                        late = {at <= tick for at in ticks}
                        self.same(laid_word(setup, logs, 0, row, tick),
                                  "open" if len(late) == 2 else "laid" if True in late else "later")

    def test_joining_by_force(self):
        many = 0
        for setup, logs, frame, end, told in ahead(1, 40, False):
            laid, first, _ = frame[3][0]
            letters = letters_of(logs)
            for row in range(first, laid + 1):
                for size in (1, 2, 3, 4):
                    found = joining_ticks(setup, logs, 0, row, size)
                    if found is not None and found[0] >= laid + 3:
                        continue
                    many += found is not None
                    ticks, nows = set(), set()
                    for offset, takings, stamps in told:
                        frees = frees_of(letters, takings, 0)
                        nows.add(self.size_at(setup, stamps, frees, frame[1], row) >= size)
                        if found is None:
                            continue
                        for way in later_rows(setup[0][0], stamps, max(0, laid + 3 - len(stamps))):
                            there = [at for at in way if at > frame[1] and self.size_at(setup, way, frees, at, row) >= size]
                            self.assertEqual(way.index(there[0]), found[0])
                            ticks.add(there[0] + offset)
                    self.same(nows, {found is None})
                    if found is not None:
                        self.same(found[1:], (min(ticks), max(ticks)))
        self.assertGreater(many, 40)

    def size_at(self, setup, stamps, frees, stamp, row):
        """How many rows the span has in which the row is; 0 if it is in none."""
        laid, spans = store_at(setup[0][0], stamps, frees, stamp)
        return max([many for first, many in spans if first <= row < first + many], default=0)


class Parting(Case):
    def test_example(self):
        self.same(parting_holds(SETUP, LOGS, 0, 5, 16, 10, PAPER), True)
        self.same(parting_holds(lists(SETUP), lists(LOGS), 0, 5, 16, 10, lists(PAPER)), True)
        self.same(parting(SETUP, LOGS, 0, 5, 17, 10), None)
        found = parting(SETUP, LOGS, 0, 5, 16, 10)
        self.same(parting_holds(SETUP, LOGS, 0, 5, 16, 10, found), True)
        self.same(laid_word(EVEN, LOGS, 0, 5, 16), "open")
        self.same(parting_stamps(EVEN, LOGS, 0, 5, 16, 10, 15), (10, 11, 12))
        self.same(parting_stamps(lists(EVEN), lists(LOGS), 0, 5, 16, 11, 11), (11,))
        self.same(parting_stamps(EVEN, LOGS, 0, 5, 16, 13, 15), ())

    def test_what_is_no_paper(self):
        bad = (
            (6, 8) + PAPER[2:], (4, 8) + PAPER[2:], (5, 9) + PAPER[2:], (5, None) + PAPER[2:], (6, 10) + PAPER[2:],
            (5, 8, 16) + PAPER[3:], (5, 8, 18) + PAPER[3:], PAPER[:3] + ((5, 12), (6, 11)), PAPER[:3] + ((5, 10), (6, 11)),
            PAPER[:3] + ((6, 11), (6, 11)), PAPER[:3] + ((5, 11), (5, 11)), PAPER[:3] + ((4, 11), (6, 11)),
            PAPER[:3] + ((5, 11), (7, 11)), PAPER[:3] + ((6, 11), (5, 11)), PAPER[:4], PAPER + (0,), (True,) + PAPER[1:],
            (5, True) + PAPER[2:], (5, 8, None) + PAPER[3:], PAPER[:3] + (None, (6, 11)), PAPER[:3] + ((5, 11), (6, True)),
            PAPER[:3] + ((5, 11), (6, 11, 0)), PAPER[:3] + ((5, 11), "ab"), (5, "a", 17) + PAPER[3:], (5, (8,)) + PAPER[2:],
            (-5, 8) + PAPER[2:], (5, -8) + PAPER[2:])
        for value in bad + ODD:
            self.same(parting_holds(SETUP, LOGS, 0, 5, 16, 10, value), False)

    def test_nothing_laid_yet(self):
        frame = (0, 1, 0, ((0, 0, None),), ())
        logs = ((("heard", 8, frame),),)
        # A frame of stamp 2 tells nothing laid, or one row at that stamp.
        found = parting(SETUP, logs, 0, 0, 8, 2)
        self.same(found[:2], (0, None))
        self.same(parting_holds(SETUP, logs, 0, 0, 8, 2, found), True)
        # Just at tick 9 both offsets are open.
        self.same(parting_holds(SETUP, logs, 0, 0, 8, 2, (0, None, 9, (5, 3), (6, 3))), True)

    def test_hearings_ahead_of_the_last_row(self):
        late = (LOGS[0] + (("heard", 17, FRAME),), (("heard", 16, FRAME),))
        setup = (SETUP[0], (1, 3), (1, 3))
        self.same(laid_ticks(setup, late, 0, 5), (15, 17))
        heard = {tick for tick in range(10, 30) for one in (5, 6) for other in (5, 6) for stamp in (11, 12)
                 if parting_holds(setup, late, 0, 5, 16, 10, (5, 8, tick, (one, 11), (other, 11)))}
        self.same(heard, {17, 18})
        # Other offsets would do for that hearing, but not for those in the logs.
        self.same(parting_holds(setup, late, 0, 5, 16, 10, (5, 8, 17, (5, 11), (6, 11))), True)
        self.same(parting_holds(setup, late, 0, 5, 16, 10, (5, 8, 17, (4, 11), (6, 11))), False)
        self.same(parting_holds(setup, late, 0, 5, 16, 10, (5, 8, 18, (5, 11), (7, 11))), False)

    def test_no_bool_is_an_integer(self):
        setup, logs = (SETUP[0], (0, 1), (1, 1)), ((("heard", 1, (0, 0, 0, ((0, 0, None),), ())),),)
        self.same(parting_holds(setup, logs, 0, 0, 1, 1, (1, 1, 2, (0, 1), (1, 1))), True)
        for value in ((True, 1, 2, (0, 1), (1, 1)), (1, True, 2, (0, 1), (1, 1)), (1, 1, 2, (False, 1), (1, 1)),
                      (1, 1, 2, (0, True), (1, 1)), (1, 1, 2, (0, 1), (True, 1)), (1, 1, 2, (0, 1), (1, True)),
                      (1, 1, 2, ("a", 1), (1, 1)), (1, 1, 2, (0, "a"), (1, 1)), (1, 1, 2, (0, 1), (None, 1)),
                      (1, 1, 2, (0, 1), (1, None)), (1, 1, 2, (0,), (1, 1)), (1, "a", 2, (0, 1), (1, 1))):
            self.same(parting_holds(setup, logs, 0, 0, 1, 1, value), False)

    def test_lots_of_several_stretches(self):
        # By one hearing both offsets can be, if they are no further away than the way down is wide.
        chance, both = random.Random(7), {False: 0, True: 0}
        for _ in range(400):
            setup, logs = parted_logs(chance)
            frames = frames_of(logs)
            if plain_out(frames, letters_of(logs)):
                continue
            end = max(row[1] for log in logs for row in log)
            told = [(offset, takings, stamps) for offset, takings, fitting in all_stories(setup, logs, end)
                    for stamps in fitting[0] if len(stamps) >= frames[-1][3][0][0]]
            offsets = {story[0] for story in told}
            if len(offsets) < 2:
                continue
            laid, _, last = frames[-1][3][0]
            stamp = frames[-1][1] + chance.randrange(1, 3)
            for tick in range(min(offsets) + last, max(offsets) + last + 5):
                found = parting(setup, logs, 0, laid, tick, stamp)
                wanted = self.plain_open(setup, offsets, (laid, last), tick, stamp)
                self.same(found is not None, wanted)
                both[wanted] += 1
        self.assertGreater(min(both.values()), 30)

    def plain_open(self, setup, offsets, mark, tick, stamp):
        """Whether some frame of that stamp, heard at some tick, leaves it open whether the next row is laid."""
        kind, down = setup[0][0], setup[1]
        laid, last = mark
        ways = [way for way in later_rows(kind, (last,), stamp - last + 2)]
        for heard in range(min(offsets) + stamp + down[0], max(offsets) + stamp + down[1] + 1):
            left = [offset for offset in offsets if down[0] <= heard - stamp - offset <= down[1]]
            by = {}
            for way in ways:
                told = tuple(at for at in way if at <= stamp)[-1:] + (len([at for at in way if at <= stamp]),)
                for offset in left:
                    by.setdefault(told, set()).add(way[1] + offset <= tick)
            if any(len(words) == 2 for words in by.values()):
                return True
        return False

    def test_by_force(self):
        counts = {False: 0, True: 0}
        for setup, logs, frame, end, told in ahead(1, 40, False):
            laid = frame[3][0][0]
            for row in (laid, laid + 1):
                whole = [(offset, takings, way) for offset, takings, stamps in told
                         for way in later_rows(setup[0][0], stamps, max(0, row + 1 - len(stamps)))]
                ticks = {offset + stamps[row] for offset, _, stamps in whole}
                for stamp in range(frame[1] + 1, frame[1] + 5):
                    if stamp > end - max(offset for offset, _, _ in told):
                        continue
                    found = self.papers(setup, logs, whole, row, stamp)
                    for tick in range(min(ticks) - 1, max(ticks) + 2):
                        wanted = {told for told, at in found.items() if min(at)[0] <= tick < max(at)[0]}
                        counts[wanted != set()] += 1
                        self.beside(setup, logs, row, tick, stamp, wanted, found)
        self.assertGreater(min(counts.values()), 100)

    def papers(self, setup, logs, whole, row, stamp):
        """By (laid, last, heard) all (tick of the row, (offset, stamp)) of stories."""
        found = {}
        for story in whole:
            (laid, last), _ = mark_at(setup, logs, story, stamp)
            for way in range(setup[1][0], setup[1][1] + 1):
                told = (laid, last, stamp + story[0] + way)
                found.setdefault(told, set()).add((story[0] + story[2][row], (story[0], story[2][row])))
        return found

    def beside(self, setup, logs, row, tick, stamp, wanted, found):
        paper = parting(setup, logs, 0, row, tick, stamp)
        self.same(paper is None, wanted == set())
        self.same(parting_stamps(setup, logs, 0, row, tick, stamp, stamp), (stamp,) if paper is None else ())
        if paper is not None:
            self.same(parting_holds(setup, logs, 0, row, tick, stamp, paper), True)
            self.assertIn(paper[:3], wanted)
            self.assertIn(paper[3], [one for at, one in found[paper[:3]] if at <= tick])
            self.assertIn(paper[4], [one for at, one in found[paper[:3]] if at > tick])
        for told in list(found)[::7]:
            one, other = min(found[told])[1], max(found[told])[1]
            self.same(parting_holds(setup, logs, 0, row, tick, stamp, (*told, one, other)), told in wanted)


class Letters(Case):
    def test_example(self):
        self.same(letter_stamps(SETUP, OUT), (15, 18))
        self.same(letter_stamps(lists(SETUP), lists(OUT)), (15, 18))
        self.same([telling(SETUP, OUT, stamp) for stamp in (14, 15, 17, 18, 10 ** 6)],
                  ["not", "perhaps", "perhaps", "surely", "surely"])
        self.same(telling(lists(SETUP), lists(OUT), 16), "perhaps")

    def test_no_copy_comes(self):
        # All copies came at the frame's stamp or ahead.
        logs = ((("sent", 11, (1, ("note", 3))),), (("heard", 16, FRAME),))
        self.same(letter_stamps(SETUP, logs), None)
        self.same(telling(SETUP, logs, 10), "surely")
        logs = ((("sent", 12, (1, ("note", 3))), ("sent", 13, (1, ("note", 3)))), (("heard", 16, FRAME),))
        self.same(letter_stamps(SETUP, logs), (10, 11))

    def test_far_copies(self):
        logs = ((("sent", 10 ** 9 - 1, (1, ("note", 3))),), (("heard", 16, FRAME),))
        self.same(letter_stamps(SETUP, logs), (10 ** 9 - 6, 10 ** 9 - 3))

    def test_sure_by_the_latest_offset_alone(self):
        # A letter that was taken tells the offset to be 0, or from 20 on: if it is that late, no copy can come.
        setup = (((1, 100, 2),), (0, 40), (0, 0))
        one, other = (0, 3, 0, ((4, 0, 3),), ()), (1, 4, 1, ((5, 0, 4),), ())
        rows = [("sent", tick, (1, ("note", 0))) for tick in (4, 24)] + [("heard", 30, other), ("sent", 30, (2, ("note", 1)))]
        logs = (tuple(rows), (("heard", 30, one),))
        self.same(letter_stamps(setup, logs), (10, 30))
        self.same([telling(setup, logs, stamp) for stamp in (5, 9, 10, 29, 30)],
                  ["not", "not", "perhaps", "perhaps", "surely"])
        # The offset is 0 or 26; by 26 the copy of letter 2 comes at the frame's stamp.
        rows = [("sent", tick, (1, ("note", 0))) for tick in (4, 30)] + [("heard", 30, other), ("sent", 30, (2, ("note", 1)))]
        logs = (tuple(rows), (("heard", 30, one),))
        self.same(letter_stamps(setup, logs), (30, 30))
        self.same([telling(setup, logs, stamp) for stamp in (5, 29, 30)], ["perhaps", "perhaps", "surely"])

    def test_by_force(self):
        words = {"surely": 0, "perhaps": 0, "not": 0}
        for setup, logs, frame, end, told in ahead(1, 60, True):
            letters, frames = letters_of(logs), frames_of(logs)
            (out,) = plain_out(frames, letters)
            takings = {story[1][out] for story in told} - {None}
            self.same(letter_stamps(setup, logs), (min(takings), max(takings)) if takings else None)
            for stamp in range(frame[1] + 1, max(takings | {frame[1]}) + 3):
                word = self.plain_telling(setup, logs, told, out, stamp)
                words[word] += 1
                self.same(telling(setup, logs, stamp), word)
        self.assertGreater(min(words.values()), 20)

    def plain_telling(self, setup, logs, told, out, stamp):
        found = {}
        for story in told:
            mark, taken = mark_at(setup, logs, story, stamp)
            for way in range(setup[1][0], setup[1][1] + 1):
                found.setdefault((mark, taken, stamp + story[0] + way), set()).add(story[1][out] is not None)
        sure = [len(ever) == 1 for ever in found.values()]
        return "surely" if all(sure) else "perhaps" if any(sure) else "not"


class Limits(Case):
    def test_forty_stamps_twenty_offsets(self):
        setup = (((1, 40, 2),) * 6, (0, 19), (0, 19))
        frame = (0, 159, 0, ((160, 0, 159),) * 6, ())
        logs = ((("heard", 278, frame),),)
        start = time.time()
        for row in (160, 180, 359):
            soonest, latest = laid_ticks(setup, logs, 5, row)
            for tick in (soonest - 1, soonest, (soonest + latest) // 2, latest):
                self.same(parting_stamps(setup, logs, 5, row, tick, 160, 199) == tuple(range(160, 200)),
                          not soonest <= tick < latest)
                for stamp in (160, 199):
                    found = parting(setup, logs, 5, row, tick, stamp)
                    self.same(found is None, not soonest <= tick < latest)
                    if found is not None:
                        self.same(parting_holds(setup, logs, 5, row, tick, stamp, found), True)
        parting_stamps(setup, logs, 0, 170, 280, 160, 259)
        self.assertLess(time.time() - start, 20)
