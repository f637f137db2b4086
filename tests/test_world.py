"""Point 73: a world."""

import random
import time

from farstory import errors
from farstory.errors import BadLog, BadSetup, NoClass, NoLetter, Refused
from farstory.link import Link
from farstory.logs import check_logs, last_tick
from farstory.meaning import meaning
from farstory.probe import Probe
from farstory.stories import story_holds
from farstory.world import World
from tests.helping import NO_INTEGERS, NO_NUMBERS, ODD, Case, lists
from tests.plain import frozen, plain_holds, random_setup

SETUP = (((2, 3, 2),), (1, 2), (1, 1))
NOTE = ("note", 1)


def state(world):
    probe, link = world.probe, world.link
    return (world.setup, world.logs, world.rows, world.taken, probe.taken, probe.number, probe.stores, probe.notes,
            probe.due(0), link.offset, link.frames, link.letters)


def sent_world():
    """A world in which two rows are laid, a frame and a letter are on their way."""
    world = World(SETUP, 6, 2)
    world.lay(0, 0, 7)
    world.lay(0, 3, 5)
    world.frame(4, [(0, 0)])
    world.send(9, NOTE)
    return world


class New(Case):
    def test_wrong(self):
        self.fails(BadSetup, -1, World, None, None, None)
        for value in NO_INTEGERS:
            self.refuses(value, World, SETUP, value, None)
        for value in NO_NUMBERS + (0, 9):
            self.refuses(value, World, SETUP, 0, value)

    def test_new(self):
        for houses in (1, 8):
            world = World(lists(SETUP), -3, houses)
            self.same((world.setup, world.logs, world.rows, world.taken), (SETUP, ((),) * houses, ((),), ()))
            self.assertIs(world.probe.__class__, Probe)
            self.assertIs(world.link.__class__, Link)
            self.same((world.probe.setup, world.link.setup, world.link.offset), (SETUP, SETUP, -3))
            self.same(world.true_story(), (-3, (), ((),)))
            self.same(world.letter_now(), None)
            self.same(world.tells(0), ("deaf",))


class Deeds(Case):
    def test_example(self):
        world = World(SETUP, 6, 2)
        self.same((world.lay(0, 0, 7), world.lay(0, 3, 5)), (0, 1))
        self.same((world.send(9, ("note", 1)), world.letter_now()), (1, (1, NOTE)))
        self.same(world.come(4, 1), True)
        frame = (0, 4, 1, ((2, 0, 3),), ((0, (0, 1, 7, 7, 7)),))
        self.same(world.frame(4, [[0, 0]]), frame)
        self.same((world.hear(0, 12, 0), world.hear(1, 11, 0)), (frame, frame))
        self.same(world.logs, ((("sent", 9, (1, NOTE)), ("heard", 12, frame)), (("heard", 11, frame),)))
        self.same((world.letter_now(), world.taken, world.rows), (None, (4,), (((0, 7), (3, 5)),)))
        self.same(world.true_story(), (6, (4,), (((0, 7), (3, 5)),)))
        self.same(world.send(12, lists(("free", 0, 1))), 2)
        self.same(world.again(12), 2)
        self.same(world.link.letters, ((9, (1, NOTE)), (12, (2, ("free", 0, 1))), (12, (2, ("free", 0, 1)))))
        self.same(world.true_story(), (6, (4, None), (((0, 7), (3, 5)),)))

    def test_of_the_probe(self):
        world = sent_world()
        kept = state(world)
        for value in NO_NUMBERS + (1,):
            self.fails(NoClass, value, world.lay, value, None, None)
        for value in NO_NUMBERS + (4, 7):
            self.refuses(value, world.lay, 0, value, None)
        for value in NO_INTEGERS + (10 ** 6 + 1,):
            self.refuses(value, world.lay, 0, 5, value)
        for value in NO_NUMBERS + (3, 4, 6):
            self.refuses(value, world.frame, value, None)
        for value in ODD[:7] + ((0,), [(0, 2)], [(1, 0)], [(0, -1)], ((0, 0),) * 101):
            if value not in ((), []):
                self.refuses(value, world.frame, 5, value)
        self.same(state(world), kept)

    def test_come(self):
        world = sent_world()
        kept = state(world)
        for value in NO_NUMBERS:
            self.refuses(value, world.come, value, None)
        for value in NO_NUMBERS + (0, 2):
            self.fails(NoLetter, value, world.come, 4, value)
        for stamp in (0, 3, 5, 10 ** 6):
            self.fails(NoLetter, 1, world.come, stamp, 1)
        # The link lets it come, the probe does not: a frame of that stamp was sent.
        self.refuses(4, world.come, 4, 1)
        self.same(state(world), kept)
        world.again(10)
        world.again(11)
        self.same([world.come(5, 1), world.come(5, 1)], [True, False])
        world.lay(0, 6, 1)
        self.same((world.come(6, 1), world.taken, world.true_story()[1]), (False, (5,), (5,)))

    def test_hear(self):
        world = sent_world()
        kept = state(world)
        for value in NO_NUMBERS + (2, 8):
            self.refuses(value, world.hear, value, None, None)
        for value in NO_INTEGERS:
            self.refuses(value, world.hear, 0, value, None)
        for tick in (10, 13, -1):
            self.refuses(0, world.hear, 0, tick, 0)
        for value in NO_NUMBERS + (1,):
            self.refuses(value, world.hear, 1, 11, value)
        self.same(state(world), kept)
        world.hear(1, 12, 0)
        kept = state(world)
        self.fails(BadLog, (1, 1), world.hear, 1, 11, 0)
        self.same(state(world), kept)
        # Ahead of another house's row it may stand.
        self.same(world.hear(0, 11, 0), world.link.frames[0][1])
        self.same(len(world.logs[0]), 2)

    def test_heard_where_no_log_can_be(self):
        world = World(SETUP, -6, 1)
        world.frame(0, ())
        self.fails(BadLog, (0, 0), world.hear, 0, -5, 0)
        world = World(SETUP, 10 ** 9 - 2, 1)
        world.frame(0, ())
        self.fails(BadLog, (0, 0), world.hear, 0, 10 ** 9, 0)
        self.same(world.hear(0, 10 ** 9 - 1, 0)[0], 0)

    def test_send(self):
        world = World(SETUP, 6, 2)
        kept = state(world)
        for value in ODD + (("free", 1, 0), ("free", 0, 100001), ("note", 1000)):
            self.refuses(value, world.send, None, value)
        for tick in NO_NUMBERS + (10 ** 9,):
            self.fails(BadLog, (0, 0), world.send, tick, NOTE)
            self.fails(NoLetter, None, world.again, tick)
        self.same(state(world), kept)
        world.send(9, NOTE)
        kept = state(world)
        # While a letter is out no new one is sent, whatever its deed.
        for deed in (NOTE, ("note", 2), list(NOTE)):
            self.refuses(deed, world.send, 9, deed)
            self.refuses(deed, world.send, None, deed)
        for tick in NO_NUMBERS + (8, 10 ** 9):
            self.fails(BadLog, (0, 1), world.again, tick)
        self.same(state(world), kept)
        self.same(world.again(9), 1)

    def test_out_for_house_0(self):
        world = sent_world()
        world.again(11)
        world.lay(0, 6, 1)
        world.come(6, 1)
        world.frame(6, ())
        # House 1 hears it as taken: house 0 does not know, and sends copies again.
        world.hear(1, 13, 1)
        self.same(world.letter_now(), (1, NOTE))
        self.refuses(NOTE, world.send, 13, NOTE)
        self.same(world.again(13), 1)
        world.hear(0, 14, 1)
        self.same(world.letter_now(), None)
        self.fails(NoLetter, None, world.again, 14)
        self.fails(BadLog, (0, 4), world.send, 13, NOTE)
        self.same(world.send(14, NOTE), 2)
        self.same(world.letter_now(), (2, NOTE))

    def test_tells(self):
        world = sent_world()
        world.hear(1, 11, 0)
        for now in (11, 12, 15):
            self.same(world.tells(now), meaning(SETUP, world.logs, now))
        for value in NO_INTEGERS + (-1, 10):
            self.refuses(value, world.tells, value)


class Led(Case):
    def test_beside_its_parts(self):
        chance, done, refused = random.Random(73), 0, 0
        for _ in range(150):
            setup = random_setup(chance, chance.randrange(1, 3), 3)
            offset, houses = chance.randrange(-2, 4), chance.randrange(1, 4)
            world = World(setup, offset, houses)
            probe, link, rows, taken = Probe(setup), Link(setup, offset), [[] for _ in setup[0]], []
            logs = [[] for _ in range(houses)]
            stamp = 0
            for _ in range(40):
                stamp += chance.randrange(4) == 0
                kept = state(world)
                try:
                    self.deed(chance, world, probe, link, rows, taken, logs, stamp)
                    done += 1
                except (errors.FarError, NoClass, NoLetter):
                    refused += 1
                    self.same(state(world), kept)
                self.same((world.logs, world.rows, world.taken), (frozen(logs), frozen(rows), tuple(taken)))
                self.same((world.probe.stores, world.probe.taken, world.probe.number, world.probe.notes),
                          (probe.stores, probe.taken, probe.number, probe.notes))
                self.same((world.link.frames, world.link.letters), (link.frames, link.letters))
            self.same(check_logs(setup, world.logs), world.logs)
        self.assertGreater(min(done, refused), 1000)

    def deed(self, chance, world, probe, link, rows, taken, logs, stamp):
        """One deed, done to the parts first; a copy of what raises is raised by the world, too."""
        word = chance.randrange(6)
        tick = max(0, stamp + world.link.offset + chance.randrange(4))
        if word < 2:
            kind, value = chance.randrange(len(rows)), chance.randrange(-5, 6)
            stamp += chance.randrange(3) == 0
            number = self.both(lambda: probe.lay(kind, stamp, value), lambda: world.lay(kind, stamp, value))
            self.assertEqual(number, len(rows[kind]))
            rows[kind].append((stamp, value))
        elif word == 2:
            places = [(0, place) for place in range(chance.randrange(2))]
            link.down(self.both(lambda: probe.frame(stamp, places), lambda: world.frame(stamp, places)))
        elif word == 3:
            number = chance.randrange(1, 3)
            if self.both(lambda: probe.take(stamp, link.come(stamp, number)), lambda: world.come(stamp, number)):
                taken.append(stamp)
        elif word == 4:
            house, number = chance.randrange(len(logs)), chance.randrange(3)
            late = logs[house] and logs[house][-1][1] > tick
            frame = self.both(lambda: link.hear(tick, number), lambda: world.hear(house, tick, number), BadLog if late else None)
            logs[house].append(("heard", tick, frame))
        else:
            self.send(chance, world, link, logs, tick)

    def send(self, chance, world, link, logs, tick):
        number = 1 + max([row[2][2] for row in logs[0] if row[0] == "heard"], default=0)
        out = [row[2] for row in logs[0] if row[0] == "sent" and row[2][0] == number]
        letter = out[0] if out else (number, chance.choice((("note", 3), ("free", 0, chance.randrange(4)))))
        self.same(world.letter_now(), letter if out else None)
        if out:
            self.refuses(letter[1], world.send, tick, letter[1])
        else:
            self.fails(NoLetter, None, world.again, tick)
        if logs[0] and logs[0][-1][1] > tick:
            self.fails(BadLog, (0, len(logs[0])), world.again if out else world.send, tick, *[letter[1]][len(out[:1]):])
            return
        self.same(world.again(tick) if out else world.send(tick, letter[1]), number)
        link.up(tick, letter)
        logs[0].append(("sent", tick, letter))

    def both(self, one, other, late=None):
        """What both do; if the one raises, the other raises the same."""
        try:
            found = one()
        except (errors.FarError, NoClass, NoLetter) as error:
            with self.assertRaises(error.__class__) as caught:
                other()
            self.assertEqual(vars(caught.exception), vars(error))
            raise
        if late is not None:
            with self.assertRaises(late):
                other()
            raise Refused(0)
        self.same(other(), found)
        return found


class TrueStories(Case):
    def test_at_each_tick(self):
        chance, many = random.Random(74), 0
        for _ in range(60):
            setup = random_setup(chance, chance.randrange(1, 3), 3)
            world = World(setup, chance.randrange(-2, 4), 2)
            stamp = 0
            for _ in range(30):
                stamp += chance.randrange(2)
                self.anything(chance, world, stamp)
                story = world.true_story()
                done = [at for rows in story[2] for at, _ in rows] + [at for at in story[1] if at is not None]
                done += [frame[1] for _, frame in world.link.frames]
                for now in range(last_tick(world.logs), last_tick(world.logs) + 12):
                    end = now - world.link.offset
                    if all(at <= end for at in done) and all(world.probe.due(kind) > end for kind in range(len(setup[0]))):
                        many += 1
                        self.assertIs(story_holds(setup, world.logs, now, story), True)
                        self.assertTrue(plain_holds(setup, world.logs, now, story))
        self.assertGreater(many, 400)

    def anything(self, chance, world, stamp):
        tick = max(0, stamp + world.link.offset)
        for action in (
            lambda: world.lay(chance.randrange(len(world.rows)), stamp, chance.randrange(9)),
            lambda: world.come(stamp, chance.randrange(1, 4)),
            lambda: world.frame(stamp, ()) if chance.randrange(3) == 0 else None,
            lambda: world.hear(chance.randrange(2), tick, chance.randrange(len(world.link.frames) + 1)),
            lambda: world.send(tick, ("free", 0, chance.randrange(5))) if chance.randrange(3) == 0 else None,
            lambda: world.again(tick) if chance.randrange(3) == 0 else None,
        ):
            try:
                action()
            except (errors.FarError, NoClass, NoLetter):
                pass


class Limits(Case):
    def test_forty_ticks_twenty_letters(self):
        start = time.time()
        setup = (((1, 1, 2), (1, 3, 8)), (0, 0), (0, 0))
        world = World(setup, 5, 8)
        number = 0
        for stamp in range(40):
            for kind in (0, 1):
                world.lay(kind, stamp, stamp)
            if stamp % 2 == 0:
                number = world.send(stamp + 5, ("free", 0, stamp))
                self.same(world.come(stamp, number), True)
            frame = world.frame(stamp, [(0, 0)])
            for house in range(8):
                world.hear(house, stamp + 5, frame[0])
            self.same(world.tells(stamp + 5)[0], "told")
        self.same((number, len(world.taken)), (20, 20))
        self.assertIs(story_holds(setup, world.logs, 44, world.true_story()), True)
        self.assertLess(time.time() - start, 20)
