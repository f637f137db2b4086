"""The main sentence, and point 75: flights led tick by tick, beside what truly is."""

import functools
import random

from farstory.aboard import row_word, word_in
from farstory.errors import BadLog, FarError, NoLetter
from farstory.ground import may_send, most_below
from farstory.known import check_known, known_of, tells_all
from farstory.link import echo
from farstory.logs import last_tick
from farstory.meaning import meaning, row_meaning
from farstory.passes import all_aboard, fewest_frames, plan_of
from farstory.stories import story_holds
from farstory.world import World
from tests.helping import Case, are_logs
from tests.plain import plain_holds, plain_word, random_setup


class Led:
    """A world led tick by tick; what truly was is kept by tick."""

    def __init__(self, seed, is_careful=False):
        self.chance = random.Random(seed)
        self.setup = random_setup(self.chance, self.chance.randrange(1, 3), 3)
        if is_careful and echo(self.setup) == 0:
            self.setup = self.setup[:2] + ((1, 1 + self.setup[2][1]),)
        self.world = World(self.setup, self.chance.randrange(0, 4), self.chance.randrange(1, 4))
        self.is_careful = is_careful
        # By tick: (the logs then, the true story then, by kind the spans aboard).
        self.kept = []
        # (number, whether it was taken) of all letters that came.
        self.came = []
        self.eager = self.chance.randrange(2, 5)

    def does(self):
        return self.chance.randrange(self.eager) == 0

    def step(self, tick):
        """All that is done at a tick: rows, letters, a frame aboard; then hearings and copies on the ground."""
        stamp = tick - self.world.link.offset
        if stamp >= 0:
            self.aboard(stamp)
        for frame in self.world.link.can_hear(tick):
            for house in range(len(self.world.logs)):
                if self.does():
                    self.world.hear(house, tick, frame[0])
        if self.does():
            self.send(tick)
        stores = [store[2] for store in self.world.probe.stores]
        self.kept.append((tick, self.world.logs, self.world.true_story(), stores))

    def aboard(self, stamp):
        world = self.world
        for kind, (gap, _, _) in enumerate(self.setup[0]):
            last = world.rows[kind][-1][0] if world.rows[kind] else None
            if world.probe.due(kind) == stamp or (last is None or last + gap <= stamp) and self.does():
                world.lay(kind, stamp, self.chance.randrange(-9, 10))
        for number, _ in world.link.can_come(stamp):
            if self.does():
                self.came.append((number, world.come(stamp, number)))
        if self.does():
            places = [(kind, place) for kind, store in enumerate(world.probe.stores) for place in range(len(store[2]))]
            world.frame(stamp, [place for place in places if self.chance.randrange(2)])

    def send(self, tick):
        world = self.world
        if world.letter_now() is not None:
            if not self.is_careful or may_send(self.setup, world.logs, tick, world.letter_now()[1]):
                world.again(tick)
            return
        kind = self.chance.randrange(len(self.setup[0]))
        deed = ("free", kind, self.chance.randrange(len(world.rows[kind]) + 2))
        if self.is_careful and self.chance.randrange(2):
            try:
                deed = ("free", kind, most_below(self.setup, world.logs, tick, kind))
            except FarError:
                deed = ("note", 3)
        if not self.is_careful or may_send(self.setup, world.logs, tick, deed):
            world.send(tick, deed)


@functools.lru_cache(maxsize=None)
def led(seed, is_careful=False, ticks=14):
    flight = Led(seed, is_careful)
    for tick in range(flight.world.link.offset + ticks):
        flight.step(tick)
    return flight


def with_ticks(flight):
    """By tick at which some frame had been heard: (setup, tick, logs, story, spans aboard)."""
    for tick, logs, story, stores in flight.kept:
        if any(row[0] == "heard" for log in logs for row in log):
            yield flight.setup, tick, logs, story, stores


class WhatTrulyIs(Case):
    def test_it_is_among_what_is_told(self):
        many = 0
        for seed in range(60):
            for setup, tick, logs, story, stores in with_ticks(led(seed)):
                many += 1
                self.assertIs(story_holds(setup, logs, tick, story), True)
                self.assertTrue(plain_holds(setup, logs, tick, story))
                word, offsets, letter, kinds = meaning(setup, logs, tick)
                self.same(word, "told")
                self.assertTrue(any(low <= story[0] <= high for low, high in offsets))
                for kind, (laid, marks, spans) in enumerate(kinds):
                    rows, here = story[2][kind], stores[kind]
                    self.assertIn(len(rows), laid)
                    self.assertIn((here[0][0] if here else len(rows), len(rows)), marks)
                    for first, many_rows, whole, low, high in spans:
                        values = [value for _, value in rows[first:first + many_rows]]
                        self.same((sum(values), min(values), max(values)), (whole, low, high))
        self.assertGreater(many, 300)

    def test_rows(self):
        many = sure = 0
        for seed in range(30):
            for setup, tick, logs, story, stores in list(with_ticks(led(seed)))[::3]:
                for kind, rows in enumerate(story[2]):
                    for row in range(len(rows) + 2):
                        many += 1
                        true = plain_word((len(rows), [span[:2] for span in stores[kind]]), row)
                        words, values = row_meaning(setup, logs, tick, kind, row)
                        self.assertIn(true, words)
                        self.same(word_in(setup, logs, tick, story, kind, row), true)
                        if row < len(rows):
                            self.assertTrue(any(low <= rows[row][1] <= high for low, high in values))
                        found = row_word(setup, logs, tick, kind, row)
                        if found[0] == "sure":
                            sure += 1
                            self.same(found[1], true)
                        else:
                            # What is open is parted by stories.
                            for word, other in found[1:]:
                                self.assertIs(story_holds(setup, logs, tick, other), True)
                                self.same(word_in(setup, logs, tick, other, kind, row), word)
        self.assertGreater(min(sure, many - sure), 100)

    def test_letters(self):
        words = {None: 0, "untaken": 0, "open": 0}
        for seed in range(60):
            for setup, tick, logs, story, _ in with_ticks(led(seed)):
                _, _, word, _ = meaning(setup, logs, tick)
                words[word] += 1
                number = 1 + max([row[2][2] for log in logs for row in log if row[0] == "heard"])
                taken = len([stamp for stamp in story[1] if stamp is not None])
                if word == "untaken":
                    self.assertLess(taken, number)
        self.assertGreater(min(words.values()), 10)

    def test_letters_are_taken_at_most_once_in_order(self):
        taken = again = 0
        for seed in range(60):
            flight = led(seed)
            numbers = [number for number, is_taken in flight.came if is_taken]
            self.same(numbers, list(range(1, len(numbers) + 1)))
            self.same((flight.world.probe.taken, len(flight.world.taken)), (len(numbers), len(numbers)))
            self.same(list(flight.world.taken), sorted(flight.world.taken))
            taken, again = taken + len(numbers), again + len(flight.came) - len(numbers)
        self.assertGreater(min(taken, again), 10)


class FurtherHearings(Case):
    def test_what_is_sure_of_a_tick_stays_so(self):
        chance, many = random.Random(75), 0
        for seed in range(60):
            for setup, tick, logs, story, _ in list(with_ticks(led(seed)))[::2]:
                fewer = tuple(tuple(row for row in log if row[0] == "sent" or chance.randrange(2)) for log in logs)
                if not are_logs(setup, fewer) or meaning(setup, fewer, tick)[0] == "deaf":
                    continue
                many += 1
                self.beside(meaning(setup, fewer, tick), meaning(setup, logs, tick))
        self.assertGreater(many, 100)

    def test_what_is_told_later_of_a_tick(self):
        # Of a tick as it was: all that was sent up to it, and what was heard up to it; then some more is heard at it.
        many = 0
        for seed in range(60):
            for setup, tick, logs, story, _ in with_ticks(led(seed)):
                before = tuple(tuple(row for row in log if row[1] < tick or row[0] == "sent") for log in logs)
                if before == logs or not are_logs(setup, before) or meaning(setup, before, tick)[0] == "deaf":
                    continue
                many += 1
                self.beside(meaning(setup, before, tick), meaning(setup, logs, tick))
        self.assertGreater(many, 60)

    def beside(self, fewer, more):
        self.same((fewer[0], more[0]), ("told", "told"))
        had = {one for low, high in fewer[1] for one in range(low, high + 1)}
        self.assertLessEqual({one for low, high in more[1] for one in range(low, high + 1)}, had)
        for (laid, marks, spans), (laid_more, marks_more, spans_more) in zip(fewer[3], more[3]):
            self.assertLessEqual(set(laid_more), set(laid))
            self.assertLessEqual(set(marks_more), set(marks))
            self.assertLessEqual(set(spans), set(spans_more))


class LettingGo(Case):
    def test_each_row_that_is_gone_is_within_a_told_span(self):
        gone = 0
        for seed in range(150):
            flight = led(seed, True, 20)
            for setup, tick, logs, story, stores in with_ticks(flight):
                for kind, rows in enumerate(story[2]):
                    told = known_of(setup, logs)[kind]
                    first = stores[kind][0][0] if stores[kind] else len(rows)
                    for row in range(first):
                        gone += 1
                        self.assertTrue(any(span[0] <= row < span[0] + span[1] for span in told), (seed, tick))
        self.assertGreater(gone, 100)


class Spans(Case):
    def test_how_many_rows_a_span_has(self):
        met = 0
        for seed in range(80):
            flight = led(seed, False, 22)
            for tick, _, story, stores in flight.kept:
                for kind, spans in enumerate(stores):
                    keep, laid = flight.setup[0][kind][2], len(story[2][kind])
                    for first, many, *_ in spans:
                        for row in range(first, first + many):
                            behind = laid - 1 - row
                            self.assertLessEqual(many, 1 + behind // (keep - 1))
                            met += many == 1 + behind // (keep - 1) and many > 1
        self.assertGreater(met, 50)


class Passes(Case):
    def test_fewest_frames_tell_all_that_is_aboard(self):
        chance, many = random.Random(76), 0
        for seed in range(60):
            flight = led(seed)
            world, setup = flight.world, flight.setup
            stamp = world.probe.present[0] + 1
            if any(world.probe.due(kind) < stamp for kind in range(len(setup[0]))):
                continue
            self.rows_at(world, stamp)
            world.frame(stamp, ())
            frame = world.link.frames[-1][1]
            wanted, room = all_aboard(setup, frame), chance.randrange(1, 4)
            stamps = tuple(range(stamp + 1, stamp + 30))
            word, plan = plan_of(setup, frame, stamps, room, 0, wanted)
            if word == "lack":
                continue
            many += 1
            self.same(len(plan), fewest_frames(setup, frame, stamps, room, 0, wanted))
            self.tell(world, stamps, plan)
            known = known_of(setup, ((("heard", 10 ** 6, frame),) + tuple(
                ("heard", 10 ** 6, told) for _, told in world.link.frames[-len(plan):] if plan),))
            aboard = [[span for span in self.spans[kind]] for kind in range(len(setup[0]))]
            self.same(tells_all(setup, known, check_known(setup, aboard)), True)
        self.assertGreater(many, 20)

    def rows_at(self, world, stamp):
        """All rows that can be laid at a stamp are."""
        for kind in range(len(world.rows)):
            try:
                world.lay(kind, stamp, 5)
            except FarError:
                pass

    def tell(self, world, stamps, plan):
        """Rows come as soon as they can; each frame tells what the plan says."""
        self.spans = [store[2] for store in world.probe.stores]
        for stamp, names in zip(stamps, plan):
            self.rows_at(world, stamp)
            places = []
            for kind, first, many in names:
                (place,) = [at for at, span in enumerate(world.probe.stores[kind][2]) if span[:2] == (first, many)]
                places.append((kind, place))
            world.frame(stamp, places)


class Quarrels(Case):
    def test_truth_never_quarrels(self):
        for seed in range(60):
            flight = led(seed)
            for tick, logs, _, _ in flight.kept:
                self.assertNotEqual(meaning(flight.setup, logs, tick)[0], "quarrel")
            self.assertGreaterEqual(flight.kept[-1][0], last_tick(flight.world.logs))

    def test_what_is_refused_changes_nothing(self):
        for seed in range(20):
            world = led(seed).world
            kept = world.logs, world.rows, world.taken, world.link.letters, world.link.frames
            for action in (lambda: world.hear(0, -1, 0), lambda: world.again(-1), lambda: world.send(-1, ("note", 1)),
                           lambda: world.come(0, 99), lambda: world.lay(0, 0, 0), lambda: world.frame(0, ())):
                with self.assertRaises((FarError, NoLetter, BadLog)):
                    action()
            self.same((world.logs, world.rows, world.taken, world.link.letters, world.link.frames), kept)
