"""Points 25 and 26: the probe."""

import random

from farstory.errors import BadSetup, NoClass, Refused
from farstory.probe import Probe
from farstory.setups import check_frame
from farstory.shapes import shape
from farstory.stores import is_store, laid_all, shape_of
from tests.helping import NO_INTEGERS, NO_NUMBERS, NO_SEQUENCES, ODD, Case, lists, tuples
from tests.plain import plain_free, plain_lay, plain_span

SETUP = (((1, 4, 2), (3, 9, 2)), (2, 5), (1, 1))
NOTE = (1, ("note", 9))
FAR = 10 ** 6


def state(probe):
    """All that is told of a probe."""
    return repr((vars(probe), probe.marks(), [probe.due(kind) for kind in range(len(probe.stores))]))


class PlainProbe:
    """What point 25 says, word by word, over plain lists."""

    def __init__(self, setup):
        self.kinds = setup[0]
        self.rows = [[] for _ in self.kinds]
        self.spans = [[] for _ in self.kinds]
        self.done = []
        self.taken, self.notes, self.number = 0, [], 0

    def dues(self):
        return [(rows[-1][0] if rows else 0) + kind[1] for rows, kind in zip(self.rows, self.kinds)]

    def lets(self, stamp, word, kind=None):
        """Whether a deed of this word ("row", "letter", "frame") can be done at this stamp."""
        if stamp < 0 or any(at > stamp for at, _, _ in self.done):
            return False
        here = [(what, which) for at, what, which in self.done if at == stamp]
        if any(what == "frame" for what, _ in here):
            return False
        if word == "row" and any(what == "letter" or which >= kind for what, which in here):
            return False
        for other, due in enumerate(self.dues()):
            first = word != "row" or other < kind
            if due < stamp or due == stamp and first:
                return False
        if word == "row":
            gap, pause, _ = self.kinds[kind]
            rows = self.rows[kind]
            return 0 <= stamp <= pause if not rows else gap <= stamp - rows[-1][0] <= pause
        return True

    def lay(self, kind, stamp, value):
        self.spans[kind] = plain_lay(self.spans[kind], self.kinds[kind][2], len(self.rows[kind]))
        self.rows[kind].append((stamp, value))
        self.done.append((stamp, "row", kind))

    def take(self, stamp, letter):
        self.done.append((stamp, "letter", None))
        if letter[0] != self.taken + 1:
            return False
        self.taken += 1
        if letter[1][0] == "note":
            self.notes.append(letter[1][1])
        else:
            self.spans[letter[1][1]] = plain_free(self.spans[letter[1][1]], letter[1][2])
        return True

    def store(self, kind):
        rows = self.rows[kind]
        values = [value for _, value in rows]
        return len(rows), rows[-1][0] if rows else None, tuple(plain_span(at, values) for at in self.spans[kind])

    def stores(self):
        return tuple(self.store(kind) for kind in range(len(self.kinds)))

    def marks(self):
        return tuple((laid, spans[0][0] if spans else laid, last) for laid, last, spans in self.stores())

    def frame(self, stamp, places):
        self.done.append((stamp, "frame", None))
        self.number += 1
        cargo = tuple((kind, self.stores()[kind][2][place]) for kind, place in places)
        return self.number - 1, stamp, self.taken, self.marks(), cargo


class ProbeCase(Case):
    def stays(self, error, kept, method, *args):
        """The call raises, and nothing is changed behind it."""
        ahead = state(method.__self__)
        self.fails(error, kept, method, *args)
        self.assertEqual(state(method.__self__), ahead)

    def like(self, probe, plain):
        self.same(probe.stores, plain.stores())
        self.same((probe.taken, probe.notes, probe.number), (plain.taken, tuple(plain.notes), plain.number))
        self.same(probe.marks(), plain.marks())
        self.same([probe.due(kind) for kind in range(len(plain.kinds))], plain.dues())


class New(ProbeCase):
    def test_nothing_was_laid(self):
        probe = Probe(lists(SETUP))
        self.same(probe.setup, SETUP)
        self.same((probe.taken, probe.number, probe.notes), (0, 0, ()))
        self.same(probe.stores, ((0, None, ()), (0, None, ())))
        self.same(probe.marks(), ((0, 0, None), (0, 0, None)))
        self.same((probe.due(0), probe.due(1)), (4, 9))

    def test_bad_setups(self):
        for value, at in ((None, -1), (SETUP[:2], -1), (((), (2, 5), (1, 1)), 0), ((SETUP[0], (5, 2), (1, 1)), 1)):
            self.fails(BadSetup, at, Probe, value)

    def test_two_probes_are_apart(self):
        one, other = Probe(SETUP), Probe(SETUP)
        one.lay(0, 0, 7)
        one.take(0, NOTE)
        one.frame(0, [])
        self.same(state(other), state(Probe(SETUP)))

    def test_no_kinds(self):
        probe = Probe(SETUP)
        for value in NO_NUMBERS + (2, 3):
            self.stays(NoClass, value, probe.due, value)
            self.stays(NoClass, value, probe.lay, value, -1, None)


class Laying(ProbeCase):
    def test_numbers_and_dues(self):
        probe = Probe(SETUP)
        self.same([probe.lay(0, 1, 7), probe.lay(0, 3, 5), probe.lay(1, 3, 40), probe.lay(0, 4, 6)], [0, 1, 0, 2])
        self.same((probe.due(0), probe.due(1)), (8, 12))
        self.same(probe.stores, (laid_all(2, [(1, 7), (3, 5), (4, 6)]), laid_all(2, [(3, 40)])))

    def test_first_rows(self):
        for stamp in range(5):
            self.same(Probe(SETUP).lay(0, stamp, 7), 0)
        self.stays(Refused, 5, Probe(SETUP).lay, 0, 5, 7)
        for stamp in range(4):
            self.same(Probe(SETUP).lay(1, stamp, 7), 0)
        # At stamp 4 a row of kind 0 must have come first.
        self.stays(Refused, 4, Probe(SETUP).lay, 1, 4, 7)

    def test_gap_and_pause(self):
        for gap, pause in ((1, 1), (1, 4), (3, 9), (2, 1000), (1000, 1000)):
            setup = (((gap, pause, 2),), (0, 0), (0, 0))
            for begin in (0, pause):
                for step in (0, 1, gap - 1, gap, gap + 1, pause - 1, pause, pause + 1):
                    probe = Probe(setup)
                    probe.lay(0, begin, 7)
                    if gap <= step <= pause:
                        self.same(probe.lay(0, begin + step, 7), 1)
                        self.same(probe.due(0), begin + step + pause)
                    else:
                        self.stays(Refused, begin + step, probe.lay, 0, begin + step, 7)

    def test_no_stamps(self):
        probe = Probe(SETUP)
        probe.lay(0, 3, 1)
        for value in NO_NUMBERS + (0, 2, 3):
            self.stays(Refused, value, probe.lay, 0, value, None)
        for value in NO_NUMBERS + (0, 2):
            self.stays(Refused, value, probe.take, value, None)
            self.stays(Refused, value, probe.frame, value, None)

    def test_no_values(self):
        probe = Probe(SETUP)
        for value in NO_INTEGERS + (FAR + 1, -FAR - 1, 256 ** 201):
            self.stays(Refused, value, probe.lay, 0, 1, value)
        self.same([probe.lay(0, 1, FAR), probe.lay(0, 2, -FAR)], [0, 1])
        self.same(probe.stores[0][2], ((0, 1, FAR, FAR, FAR), (1, 1, -FAR, -FAR, -FAR)))


class Order(ProbeCase):
    """At one stamp come rows, by kind, each kind once, then letters, then one frame."""

    deeds = {
        "row 0": lambda probe, stamp: probe.lay(0, stamp, 1), "row 1": lambda probe, stamp: probe.lay(1, stamp, 1),
        "letter": lambda probe, stamp: probe.take(stamp, NOTE), "frame": lambda probe, stamp: probe.frame(stamp, []),
    }
    turns = {"row 0": 0, "row 1": 1, "letter": 2, "frame": 3}

    def test_every_order(self):
        for stamp in (0, 2):
            for one in self.deeds:
                for other in self.deeds:
                    probe = Probe((((1, 4, 2), (1, 4, 2)), (0, 0), (0, 0)))
                    self.deeds[one](probe, stamp)
                    ahead = state(probe)
                    if self.turns[one] < self.turns[other] or one == other == "letter":
                        self.deeds[other](probe, stamp)
                    else:
                        with self.assertRaises(Refused) as caught:
                            self.deeds[other](probe, stamp)
                        self.same(caught.exception.at, stamp)
                        self.same(state(probe), ahead)
                    # At the next stamp all begins anew.
                    self.deeds[other](probe, stamp + 1)

    def test_what_is_ahead_of_the_present(self):
        for one in self.deeds:
            for other in self.deeds:
                probe = Probe((((1, 4, 2), (1, 4, 2)), (0, 0), (0, 0)))
                self.deeds[one](probe, 3)
                ahead = state(probe)
                for stamp in range(3):
                    self.assertRaises(Refused, self.deeds[other], probe, stamp)
                self.same(state(probe), ahead)

    def test_letters_not_taken_count_too(self):
        probe = Probe(SETUP)
        self.assertIs(probe.take(3, (2, ("note", 1))), False)
        self.stays(Refused, 2, probe.take, 2, NOTE)
        self.stays(Refused, 3, probe.lay, 0, 3, 1)
        self.assertIs(probe.take(3, NOTE), True)

    def test_what_would_be_left_out(self):
        def fresh():
            probe = Probe((((1, 4, 2), (1, 4, 2)), (0, 0), (0, 0)))
            probe.lay(0, 0, 1)
            probe.lay(1, 1, 1)
            return probe
        # Row 0 is due at 4, row 1 at 5.
        self.stays(Refused, 4, fresh().take, 4, NOTE)
        self.stays(Refused, 4, fresh().frame, 4, [])
        self.stays(Refused, 4, fresh().lay, 1, 4, 1)
        self.stays(Refused, 5, fresh().take, 5, NOTE)
        self.stays(Refused, 5, fresh().lay, 1, 5, 1)
        self.stays(Refused, 5, fresh().lay, 0, 5, 1)
        self.stays(Refused, 6, fresh().frame, 6, [])
        self.assertIs(fresh().take(3, NOTE), True)
        probe = fresh()
        self.same([probe.lay(0, 4, 1), probe.lay(1, 4, 1)], [1, 1])
        probe = fresh()
        probe.lay(0, 4, 1)
        self.stays(Refused, 5, probe.take, 5, NOTE)
        # A row of an earlier kind may come first where the later one is due.
        self.same([probe.lay(0, 5, 1), probe.lay(1, 5, 1)], [2, 1])
        self.assertIs(probe.take(5, NOTE), True)


class Letters(ProbeCase):
    def test_at_most_once_and_in_order(self):
        probe = Probe(SETUP)
        came = [(2, 0), (1, 1), (1, 2), (3, 3), (2, 4), (2, 5), (1, 6), (3, 7)]
        taken = [probe.take(1, (number, ("note", note))) for number, note in came]
        self.same(taken, [False, True, False, False, True, False, False, True])
        self.same((probe.taken, probe.notes), (3, (1, 4, 7)))

    def test_lets_go(self):
        probe = Probe((((1, 4, 2), (1, 9, 2)), (0, 0), (0, 0)))
        for stamp in range(5):
            probe.lay(0, stamp, stamp)
            probe.lay(1, stamp, stamp)
        self.same(shape_of(probe.stores[0]), ((0, 2), (2, 2), (4, 1)))
        left = {0: 3, 1: 3, 2: 2, 3: 2, 4: 1, 5: 0, 9: 0, 100000: 0}
        number = 0
        for below, many in sorted(left.items()):
            number += 1
            self.assertIs(probe.take(4, [number, ["free", 0, below]]), True)
            self.same(len(probe.stores[0][2]), many)
        self.same(probe.marks(), ((5, 5, 4), (5, 0, 4)))
        self.same(probe.notes, ())
        # What is laid behind it stays, whatever it let go.
        self.same(probe.lay(0, 5, 9), 5)
        self.same(probe.stores[0], (6, 5, ((5, 1, 9, 9, 9),)))

    def test_no_letters(self):
        probe = Probe(SETUP)
        for value in ODD + (
            (1,), (0, ("note", 1)), (True, ("note", 1)), (1, ("note", 1000)), (1, ("free", 2, 0)), (1, ("free", 0, -1)),
            (1, ("free", 0, 100001)), (1, ("note", 1), 0), ("1", ("note", 1)), (1, None), (-1, ("note", 1)),
        ):
            self.stays(Refused, value, probe.take, 1, value)
        self.stays(Refused, -1, probe.take, -1, None)
        self.stays(Refused, 4, probe.take, 4, None)


class Frames(ProbeCase):
    def test_numbers_marks_cargo(self):
        probe = Probe(SETUP)
        self.same(probe.frame(0, ()), (0, 0, 0, ((0, 0, None), (0, 0, None)), ()))
        for stamp, value in ((1, 7), (3, 5), (4, 6)):
            probe.lay(0, stamp, value)
        probe.take(4, NOTE)
        places = [[0, 1], (0, 0), (0, 1)]
        cargo = ((0, (2, 1, 6, 6, 6)), (0, (0, 2, 12, 5, 7)), (0, (2, 1, 6, 6, 6)))
        frame = probe.frame(4, places)
        self.same(frame, (1, 4, 1, ((3, 0, 4), (0, 0, None)), cargo))
        places[0][0] = 1
        self.same(check_frame(SETUP, frame), frame)
        self.same(probe.number, 2)

    def test_no_places(self):
        probe = Probe(SETUP)
        probe.lay(0, 1, 7)
        for value in NO_SEQUENCES + ((0, 0), ((0, 1),), ((1, 0),), ((2, 0),), ((-1, 0),), ((0, -1),), ((0,),), ((0, 0, 0),),
                                     ((False, 0),), ((0, False),), ((None, 0),), ((0, None),), ("00",), ((0, 0), None),
                                     (("0", "0"),), ((0, 0),) * 101, [[0, 0]] * 101, ((0, 0), (0, 256 ** 201))):
            self.stays(Refused, value, probe.frame, 1, value)
        self.same(len(probe.frame(1, [(0, 0)] * 100)[4]), 100)
        self.stays(Refused, 1, probe.frame, 1, None)

    def test_what_was_let_go_has_no_place(self):
        probe = Probe(SETUP)
        probe.lay(0, 1, 7)
        probe.take(1, (1, ("free", 0, 1)))
        self.stays(Refused, ((0, 0),), probe.frame, 1, ((0, 0),))
        self.same(probe.frame(1, ())[3], ((1, 1, 1), (0, 0, None)))


class Always(ProbeCase):
    def any_deed(self, chance, probe, plain, stamp):
        """Tries a deed beside the plain one; it is refused just where that tells so."""
        word = chance.choice(("row", "row", "letter", "frame"))
        kind = chance.randrange(len(plain.kinds))
        lets = plain.lets(stamp, word, kind)
        ahead = state(probe)
        try:
            if word == "row":
                value = chance.randrange(-9, 10)
                found = probe.lay(kind, stamp, value)
                self.same(found, len(plain.rows[kind]))
                plain.lay(kind, stamp, value)
            elif word == "letter":
                deed = chance.choice((("note", chance.randrange(1000)), ("free", kind, chance.randrange(12))))
                letter = (chance.randrange(1, plain.taken + 3), deed)
                found = probe.take(stamp, letter)
                self.same(found, plain.take(stamp, letter))
            else:
                places = [(at, place) for at, spans in enumerate(plain.spans) for place in range(len(spans))]
                places = [place for place in places if chance.randrange(2)]
                found = probe.frame(stamp, places)
                self.same(found, plain.frame(stamp, places))
                self.same(check_frame(probe.setup, found), found)
        except Refused as error:
            self.assertFalse(lets, (word, kind, stamp))
            self.same(error.at, stamp)
            self.same(state(probe), ahead)
        else:
            self.assertTrue(lets, (word, kind, stamp))
        self.like(probe, plain)

    def test_beside_plain_lists(self):
        chance = random.Random(25)
        for _ in range(150):
            kinds = []
            for _ in range(chance.randrange(1, 4)):
                gap = chance.randrange(1, 4)
                kinds.append((gap, gap + chance.randrange(4), chance.randrange(2, 5)))
            setup = (tuple(kinds), (0, 1), (0, 1))
            probe, plain = Probe(setup), PlainProbe(setup)
            stamp = 0
            for _ in range(60):
                self.any_deed(chance, probe, plain, stamp + chance.randrange(-1, 3))
                stamp = max([at for at, _, _ in plain.done], default=0)

    def test_rows_can_always_go_on(self):
        chance = random.Random(26)
        for _ in range(40):
            kinds = tuple((1 + at % 2, 1 + at % 2 + chance.randrange(4), 2) for at in range(chance.randrange(1, 5)))
            setup = (kinds, (0, 1), (0, 1))
            probe, plain = Probe(setup), PlainProbe(setup)
            for _ in range(chance.randrange(30)):
                self.any_deed(chance, probe, plain, max([at for at, _, _ in plain.done], default=0) + chance.randrange(2))
            for _ in range(30):
                due, kind = min((probe.due(kind), kind) for kind in range(len(kinds)))
                self.same(probe.lay(kind, due, 0), len(plain.rows[kind]))
                plain.lay(kind, due, 0)

    def test_marks_tell_what_is_aboard(self):
        chance = random.Random(27)
        setup = (((1, 3, 2), (1, 3, 4)), (0, 1), (0, 1))
        probe, plain = Probe(setup), PlainProbe(setup)
        for stamp in range(120):
            for _ in range(3):
                self.any_deed(chance, probe, plain, stamp)
            for due, kind in sorted((probe.due(kind), kind) for kind in range(2)):
                if due == stamp and plain.lets(stamp, "row", kind):
                    probe.lay(kind, stamp, 0)
                    plain.lay(kind, stamp, 0)
            for (_, _, keep), (laid, first, _), store in zip(setup[0], probe.marks(), probe.stores):
                self.same(shape(keep, first, laid), shape_of(store))
                self.assertIs(is_store(keep, store), True)

    def test_what_was_returned_stays(self):
        probe = Probe(SETUP)
        probe.lay(0, 1, 7)
        frame, stores, marks, notes = probe.frame(1, [(0, 0)]), probe.stores, probe.marks(), probe.notes
        told = repr((frame, stores, marks, notes))
        probe.lay(0, 2, 8)
        probe.take(2, NOTE)
        probe.take(2, (2, ("free", 0, 9)))
        self.same(repr((frame, stores, marks, notes)), told)
        self.same(tuples(stores), stores)

    def test_by_names(self):
        probe = Probe(setup=SETUP)
        self.same(probe.lay(value=7, stamp=1, kind=0), 0)
        self.same(probe.due(kind=0), 5)
        self.same(probe.take(letter=NOTE, stamp=1), True)
        self.same(probe.frame(places=(), stamp=1)[0], 0)

    def test_two_thousand_rows(self):
        setup = (tuple((1, 1000, keep) for keep in (2, 3, 4, 5, 6, 8)), (0, 10000), (0, 10000))
        probe = Probe(setup)
        for row in range(2000):
            for kind in range(6):
                probe.lay(kind, 500 * row, row - 1000)
        for kind, (_, _, keep) in enumerate(setup[0]):
            self.same(shape_of(probe.stores[kind]), shape(keep, 0, 2000))
            self.same(sum(span[2] for span in probe.stores[kind][2]), -1000)
        self.same(probe.marks()[3], (2000, 0, 999500))
