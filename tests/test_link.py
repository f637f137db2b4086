"""Points 30 to 32: the link. Also the stretches of integers that it tells."""

import random

from farstory.errors import BadFrame, BadSetup, NoLetter, Refused
from farstory.link import Link, come_stamps, echo, heard_ticks, offsets_come, offsets_heard
from farstory.stretches import common, has, merged
from tests.helping import NO_INTEGERS, NO_NUMBERS, NO_SEQUENCES, ODD, Case, lists

SETUP = (((1, 4, 2),), (2, 5), (1, 1))
NEW = ((0, 0, None),)
NOTE = (1, ("note", 9))
FAR = 10 ** 9
NO_TICKS = NO_SEQUENCES + ((), [], (None,), (True,), ("1",), (1, None), (1, False), ((1,),))


def frame_of(number, stamp):
    return number, stamp, 0, NEW, ()


def integers(stretches):
    """All integers of stretches that are ascending, an integer lacking between each two."""
    for low, high in stretches:
        assert low <= high
    for one, other in zip(stretches, stretches[1:]):
        assert one[1] + 1 < other[0]
    return {at for low, high in stretches for at in range(low, high + 1)}


def ways(chance):
    least = chance.randrange(4)
    return least, least + chance.randrange(4)


def any_setup(chance):
    return SETUP[0], ways(chance), ways(chance)


class Stretches(Case):
    def test_beside_sets(self):
        chance = random.Random(1)
        for _ in range(300):
            both = []
            for _ in range(2):
                told = []
                for _ in range(chance.randrange(5)):
                    low = chance.randrange(-9, 9)
                    told.append((low, low + chance.randrange(4)))
                both.append(merged(told))
                self.assertEqual(integers(both[-1]), {at for low, high in told for at in range(low, high + 1)})
            self.assertEqual(integers(common(*both)), integers(both[0]) & integers(both[1]))
            for at in range(-10, 14):
                self.assertIs(has(both[0], at), at in integers(both[0]))


class Ways(Case):
    def test_by_the_words(self):
        chance = random.Random(30)
        for _ in range(200):
            setup = any_setup(chance)
            (_, down, up), offset = setup, chance.randrange(-9, 9)
            stamp = chance.randrange(9)
            found = heard_ticks(setup, offset, stamp)
            self.same(found, (stamp + offset + down[0], stamp + offset + down[1]))
            ticks = [chance.randrange(-9, 12) for _ in range(chance.randrange(1, 5))]
            can = {at for at in range(40) if any(up[0] <= at + offset - tick <= up[1] for tick in ticks)}
            self.assertEqual(integers(come_stamps(setup, offset, ticks)), can)
            self.same(come_stamps(setup, offset, tuple(ticks[::-1])), come_stamps(setup, offset, ticks))
            lets = {at for at in range(-60, 60) if any(up[0] <= stamp + at - tick <= up[1] for tick in ticks)}
            self.assertEqual(integers(offsets_come(setup, stamp, ticks)), lets)
            hearings = [(chance.randrange(4), chance.randrange(6)) for _ in range(chance.randrange(1, 4))]
            able = [at for at in range(-60, 60)
                    if all(down[0] <= tick - one - at <= down[1] for one, tick in hearings)]
            self.same(offsets_heard(setup, hearings), (able[0], able[-1]) if able else None)

    def test_edges(self):
        self.same(come_stamps(SETUP, 100, [90, 108, 109, 120]), ((9, 10), (21, 21)))
        # A copy that comes ahead of stamp 0 finds no probe.
        self.same(come_stamps(SETUP, 100, [98]), ())
        self.same(come_stamps(SETUP, 100, [99]), ((0, 0),))
        self.same(come_stamps((SETUP[0], (0, 0), (0, 5)), 100, [98]), ((0, 3),))
        # Stretches that touch are one.
        self.same(come_stamps((SETUP[0], (0, 0), (0, 1)), 0, [4, 0, 2]), ((0, 5),))
        self.same(come_stamps((SETUP[0], (0, 0), (0, 1)), 0, [3, 0]), ((0, 1), (3, 4)))
        self.same(offsets_come(SETUP, 9, [108, 110]), ((100, 100), (102, 102)))
        self.same(offsets_come(SETUP, 9, [108, 109, 109]), ((100, 101),))
        self.same(offsets_heard(SETUP, [(4, 107), (9, 111)]), (98, 100))
        # Ways of equal least and most leave one offset.
        even = (SETUP[0], (3, 3), (2, 2))
        self.same(offsets_heard(even, [(4, 107)]), (100, 100))
        self.same(offsets_heard(even, [(4, 107), (5, 108), (0, 103)]), (100, 100))
        self.same(offsets_heard(even, [(4, 107), (5, 107)]), None)
        self.same(heard_ticks(even, -100, 4), (-93, -93))
        self.same(heard_ticks(lists(SETUP), -FAR, FAR), (2, 5))

    def test_echo(self):
        for setup, ticks in ((SETUP, 3), (lists(SETUP), 3), ((SETUP[0], (0, 9), (0, 9)), 0), ((SETUP[0], (7, 7), (0, 1)), 7)):
            self.same(echo(setup), ticks)

    def test_nothing_is_sooner_than_the_echo(self):
        chance = random.Random(31)
        for _ in range(50):
            setup = any_setup(chance)
            found = set()
            for tick in range(6):
                for stamp in sorted(integers(come_stamps(setup, 0, [tick]))):
                    found.add(heard_ticks(setup, 0, stamp)[0] - tick)
            self.same(min(found), echo(setup))

    def test_refused(self):
        for value in NO_INTEGERS:
            self.refuses(value, heard_ticks, SETUP, value, -1)
            self.refuses(value, come_stamps, SETUP, value, ())
            self.refuses(value, Link, SETUP, value)
        for value in NO_NUMBERS:
            self.refuses(value, heard_ticks, SETUP, 0, value)
            self.refuses(value, offsets_come, SETUP, value, ())
        for value in NO_TICKS:
            self.refuses(value, come_stamps, SETUP, 0, value)
            self.refuses(value, offsets_come, SETUP, 0, value)
        for value in NO_TICKS + ((1, 2), ((1,),), ((1, 2, 3),), ((-1, 2),), ((True, 2),), ((1, True),), ((1, None),),
                                 ((1, 2), None), ("12",), (("1", "2"),)):
            self.refuses(value, offsets_heard, SETUP, value)
        self.same(offsets_heard(SETUP, [[0, -7]]), (-12, -9))

    def test_setups_ahead_of_all_else(self):
        for value, at in ((None, -1), ((SETUP[0], (5, 2), (1, 1)), 1)):
            self.fails(BadSetup, at, heard_ticks, value, None, None)
            self.fails(BadSetup, at, come_stamps, value, None, None)
            self.fails(BadSetup, at, echo, value)
            self.fails(BadSetup, at, offsets_heard, value, None)
            self.fails(BadSetup, at, offsets_come, value, None, None)
            self.fails(BadSetup, at, Link, value, None)

    def test_limits(self):
        ticks = [FAR - 3 * at for at in range(200)]
        self.same(len(come_stamps(SETUP, -FAR, ticks)), 200)
        self.same(len(offsets_come(SETUP, FAR, ticks)), 200)
        self.same(offsets_heard((SETUP[0], (0, 10000), (0, 0)), [(at, at - FAR) for at in range(200)]), (-FAR - 10000, -FAR))


class LinkCase(Case):
    def stays(self, error, kept, method, *args):
        ahead = repr(vars(method.__self__))
        self.fails(error, kept, method, *args)
        self.same(repr(vars(method.__self__)), ahead)


class Sending(LinkCase):
    def test_new(self):
        link = Link(lists(SETUP), -3)
        self.same((link.setup, link.offset, link.frames, link.letters), (SETUP, -3, (), ()))
        self.assertIs(link.is_over(-10 ** 9), True)
        self.same((link.can_hear(0), link.can_come(0)), ((), ()))

    def test_frames(self):
        link = Link(SETUP, 100)
        self.same([link.down(frame_of(at, 3 * at)) for at in range(3)], [100, 103, 106])
        self.same(link.down(lists(frame_of(3, 7))), 107)
        self.same(link.frames, tuple((100 + stamp, frame_of(at, stamp)) for at, stamp in enumerate((0, 3, 6, 7))))
        for frame in (frame_of(3, 9), frame_of(5, 9), frame_of(4, 7), frame_of(4, 6), lists(frame_of(0, 9))):
            self.stays(Refused, frame, link.down, frame)
        self.same(link.down(frame_of(4, 8)), 108)
        self.stays(Refused, frame_of(1, 9), Link(SETUP, 0).down, frame_of(1, 9))

    def test_no_frames(self):
        link = Link(SETUP, 100)
        for value, at in ((None, -1), ((), -1), ((True, 0, 0, NEW, ()), 0), ((0, -1, 0, NEW, ()), 1), ((0, 0, 0, None, ()), 3),
                          ((9, 0, 0, NEW, None), 4)):
            self.stays(BadFrame, at, link.down, value)

    def test_copies(self):
        link = Link(SETUP, 100)
        other = (7, ("free", 0, 3))
        self.same([link.up(-5, NOTE), link.up(-5, list(NOTE)), link.up(0, other), link.up(9, NOTE)], [1, 2, 3, 4])
        self.same(link.letters, ((-5, NOTE), (-5, NOTE), (0, other), (9, NOTE)))
        for value in NO_INTEGERS + (8, -6):
            self.stays(Refused, value, link.up, value, None)
        for value in ODD + ((1, ("note", 8)), [1, ["note", 8]], (7, ("free", 0, 4)), (7, ("note", 3)), (0, ("note", 9))):
            self.stays(Refused, value, link.up, 9, value)
        # A letter of another number may be sent whichever were sent ahead.
        self.same(link.up(9, (3, ("note", 8))), 5)


class Coming(LinkCase):
    def link(self):
        link = Link(SETUP, 100)
        for number, stamp in enumerate((3, 4, 9)):
            link.down(frame_of(number, stamp))
        for tick, number in ((104, 2), (106, 1), (106, 1), (106, 3), (108, 1)):
            link.up(tick, (number, ("note", number)))
        return link

    def test_frames_that_can_be_heard(self):
        link = self.link()
        there = {tick: link.can_hear(tick) for tick in range(100, 120)}
        for tick, frames in there.items():
            self.same(frames, tuple(
                frame_of(number, stamp) for number, stamp in enumerate((3, 4, 9)) if 2 <= tick - stamp - 100 <= 5))
            for number in range(-1, 5):
                if number in [frame[0] for frame in frames]:
                    self.same(link.hear(tick, number), frame_of(number, (3, 4, 9)[number]))
                else:
                    self.stays(Refused, number, link.hear, tick, number)

    def test_letters_that_can_come(self):
        link = self.link()
        self.same([link.can_come(stamp) for stamp in range(4, 11)], [
            (), ((2, ("note", 2)),), (), ((1, ("note", 1)), (3, ("note", 3))), (), ((1, ("note", 1)),), ()])
        self.same(link.come(7, 3), (3, ("note", 3)))
        for stamp, number in ((7, 2), (5, 1), (6, 1), (7, 0), (7, 4)):
            self.stays(NoLetter, number, link.come, stamp, number)

    def test_wrong_numbers(self):
        link = self.link()
        for value in NO_NUMBERS:
            self.stays(Refused, value, link.hear, 106, value)
            self.stays(NoLetter, value, link.come, 7, value)
        self.same((link.hear(106, 1)[0], link.come(7, 1)[0]), (1, 1))

    def test_wrong_ticks_and_stamps(self):
        link = self.link()
        for value in NO_INTEGERS:
            self.stays(Refused, value, link.can_hear, value)
            self.stays(Refused, value, link.hear, value, None)
            self.stays(Refused, value, link.is_over, value)
        for value in NO_NUMBERS:
            self.stays(Refused, value, link.can_come, value)
            self.stays(Refused, value, link.come, value, None)

    def test_ways_of_equal_least_and_most(self):
        link = Link((SETUP[0], (3, 3), (0, 0)), -50)
        link.down(frame_of(0, 0))
        link.up(-40, NOTE)
        self.same([tick for tick in range(-60, 0) if link.can_hear(tick)], [-47])
        self.same([stamp for stamp in range(60) if link.can_come(stamp)], [10])

    def test_copies_that_meet(self):
        link = Link((SETUP[0], (0, 0), (0, 2)), 0)
        for tick in (4, 5, 9):
            link.up(tick, NOTE)
        self.same([stamp for stamp in range(20) if link.can_come(stamp)], [4, 5, 6, 7, 9, 10, 11])
        self.same(link.can_come(5), (NOTE,))

    def test_over(self):
        link = Link(SETUP, 100)
        link.down(frame_of(0, 3))
        self.same([link.is_over(tick) for tick in (103, 107, 108, 109)], [False, False, True, True])
        link.up(107, NOTE)
        self.same([link.is_over(tick) for tick in (107, 108)], [False, True])
        link.up(108, NOTE)
        self.same([link.is_over(tick) for tick in (108, 109)], [False, True])
        # Also what comes where the stamps of the probe have not begun is on its way.
        link = Link(SETUP, 100)
        link.up(-7, NOTE)
        self.same([link.is_over(tick) for tick in (-7, -6)], [False, True])

    def test_hearing_changes_nothing(self):
        chance = random.Random(32)
        link = self.link()
        told = repr(vars(link))
        asked = [(tick, number) for tick in range(103, 116) for number in range(4)]
        found = {}
        for _ in range(3):
            chance.shuffle(asked)
            for tick, number in asked:
                answers = []
                for method, at in ((link.hear, tick), (link.come, tick - 100)):
                    try:
                        answers.append(method(at, number))
                    except (Refused, NoLetter):
                        answers.append(None)
                self.same(found.setdefault((tick, number), answers), answers)
        self.same(repr(vars(link)), told)
        self.assertGreater(len([1 for answers in found.values() if any(answers)]), 10)

    def test_two_hundred(self):
        link = Link((SETUP[0], (0, 10000), (0, 10000)), FAR)
        for at in range(200):
            link.down(frame_of(at, 7 * at))
            self.same(link.up(FAR + at, (1 + at // 2, ("note", at // 2))), at + 1)
        self.same(link.can_hear(FAR + 2000), link.can_hear(FAR + 1393))
        self.same(len(link.can_hear(FAR + 1393)), 200)
        self.same([letter[0] for letter in link.can_come(10000)], list(range(1, 101)))
        self.same(link.is_over(FAR + 11392), False)
        self.same(link.is_over(FAR + 11393), True)

    def test_by_names(self):
        link = Link(offset=100, setup=SETUP)
        self.same(link.down(frame=frame_of(0, 3)), 103)
        self.same(link.up(letter=NOTE, tick=104), 1)
        self.same(link.hear(number=0, tick=105), link.can_hear(tick=105)[0])
        self.same(link.come(number=1, stamp=5), link.can_come(stamp=5)[0])
        self.same(link.is_over(tick=200), True)
