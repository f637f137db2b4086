"""Points 76 to 78: a desk."""

import random
import time

from farstory import errors
from farstory.aboard import row_words
from farstory.counts import laid_now, letter_word
from farstory.desk import Desk
from farstory.errors import BadSetup, BadText
from farstory.known import known_of, lacks
from farstory.offsets import offsets
from farstory.values import values_of
from farstory.world import World
from tests.helping import NO_INTEGERS, NO_NUMBERS, ODD, Case, lists
from tests.plain import frames_of, random_setup
from tests.test_world import state

SETUP = (((2, 3, 2),), (1, 2), (1, 1))
LED = ("lay 0 0 7", "lay 0 3 -1", "frame 4 0:0", "send 10 free 0 1", "hear 1 11 0", "lay 0 5 9", "come 5 1", "hear 0 12 0")
GOOD = LED + (
    "frame 6", "frame 6 0:0 0:1", "send 12 note 3", "again 12", "told 12", "offsets 12", "letter 12", "laid 12 0", "row 12 0 0",
    "value 12 0 0", "lacks 0 3")
BAD = (
    "", " ", "lay", "lay ", "lay 0", "lay 0 0", "lay 0 0 7 ", " lay 0 0 7", "lay  0 0 7", "lay 0  0 7", "lay 0 0 7 7",
    "lay 00 0 7", "lay 0 00 7", "lay 0 0 07", "lay 0 0 -0", "lay 0 0 -07", "lay 0 0 --7", "lay 0 0 -", "lay 0 0 +7",
    "lay -1 0 7", "lay 0 -1 7", "lay 0 0 1234567890", "lay 1234567890 0 7", "lay 0 0 -1234567890", "lay 0 0 7.0",
    "lay 0 0 0x7", "lay 0 0 7\n", "lay\t0 0 7", "lay 0 0 a", "Lay 0 0 7", "LAY 0 0 7", "lays 0 0 7", "lay 0 0 1_0",
    "lay 0 0 \u0663", "lay 0 0 \u00b2", "frame", "frame ", "frame a", "frame -4", "frame 4 ", "frame 4 0", "frame 4 0:",
    "frame 4 :0", "frame 4 0:0:0", "frame 4 0:-0", "frame 4 -1:0", "frame 4 00:0", "frame 4 0:00", "frame 4 0:0  0:0",
    "frame 4 0:0 0", "frame 4 0:1234567890", "frame 04", "frame 0:0", "come", "come 5", "come 5 1 1", "come 5 -1", "come -5 1",
    "hear 0 12", "hear 0 12 0 0", "hear 0 -12 0", "hear -1 12 0", "hear 0 12 x", "send", "send 10", "send 10 free",
    "send 10 free 0", "send 10 free 0 1 1", "send 10 free 0 -1", "send 10 Free 0 1", "send 10 note", "send 10 note 3 3",
    "send 10 note -3", "send -10 note 3", "send 10 other 3", "send note 3", "send 10 free", "send 10 note 03", "again",
    "again -1", "again 1 1", "again 01", "told", "told -1", "told 12 0", "told x", "offsets", "offsets 12 0", "letter",
    "letter 12 1", "laid 12", "laid 12 0 0", "laid -12 0", "row 12 0", "row 12 0 0 0", "row 12 0 -1", "value 12 0",
    "value 12 0 0 0", "value 12 -0 0", "lacks 0", "lacks 0 3 3", "lacks 0 -3", "taken", "due 0", "look 0")


def led_desk(lines=LED):
    desk = Desk(SETUP, 6, 2)
    for line in lines:
        desk.say(line)
    return desk


class New(Case):
    def test_errors_as_of_a_world(self):
        self.fails(BadSetup, -1, Desk, None, None, None)
        for value in NO_INTEGERS:
            self.refuses(value, Desk, SETUP, value, None)
        for value in NO_NUMBERS + (0, 9):
            self.refuses(value, Desk, SETUP, 0, value)

    def test_new(self):
        desk = Desk(lists(SETUP), -6, 3)
        self.assertIs(desk.world.__class__, World)
        self.same(state(desk.world), state(World(SETUP, -6, 3)))


class Lines(Case):
    def test_example(self):
        desk = Desk(SETUP, 6, 2)
        self.same([desk.say(line) for line in LED], [
            "row 0", "row 1", "frame 0", "letter 1", "heard", "row 2", "taken", "heard"])
        self.same([desk.say(line) for line in ("hear 0 13 0", "told 12", "offsets 12", "letter 12", "laid 12 0")],
                  ["refused", "told", "6:6", "open", "3"])
        self.same([desk.say(line) for line in ("row 12 0 0", "row 12 0 9", "value 12 0 0", "lacks 0 3")],
                  ["aboard 0 2 | gone", "later", "7:7", "1:2"])

    def test_what_is_no_line(self):
        desk = led_desk()
        kept = state(desk.world)
        for line in BAD + ODD + (b"told 12", ["told 12"], ("told", 12), 12):
            self.fails(BadText, 0, desk.say, line)
        self.same(state(desk.world), kept)
        # Each good line is one, and bad with anything ahead, behind, or left out.
        for line in GOOD:
            desk = led_desk(LED[:LED.index(line)] if line in LED else LED)
            self.assertIsInstance(desk.say(line), str)
            for bad in (" " + line, line + " ", line.replace(" ", "  ", 1), line + "\n", line + " x", line.upper(), line + " -1"):
                self.fails(BadText, 0, desk.say, bad)
            if not line.startswith("frame"):
                self.fails(BadText, 0, desk.say, line + " 1")
                self.fails(BadText, 0, desk.say, line.rsplit(" ", 1)[0])

    def test_figures(self):
        desk = Desk(SETUP, 0, 1)
        self.same(desk.say("lay 0 0 -999999999"), "refused")
        self.same(desk.say("lay 0 0 -1000000"), "row 0")
        self.same(desk.say("lay 0 2 1000000"), "row 1")
        self.same(desk.say("again 999999999"), "refused")
        self.same(desk.say("send 999999999 note 999"), "letter 1")
        self.same(desk.say("again 999999999"), "letter 1")
        self.fails(BadText, 0, desk.say, "again 1000000000")

    def test_far_ticks(self):
        desk = led_desk()
        self.same([desk.say(line) for line in ("told 999999999", "offsets 999999999", "letter 999999999", "value 999999999 0 0")],
                  ["told", "6:6", "open", "7:7"])

    def test_refused(self):
        desk = led_desk()
        kept = state(desk.world)
        for line in ("lay 1 6 0", "lay 0 6 0", "lay 0 9 0", "lay 0 7 1000001", "frame 4", "frame 5 0:2", "frame 5 1:0", "frame 9",
                     "come 6 1", "come 5 2", "hear 2 12 0", "hear 0 11 0", "hear 0 13 0", "hear 0 12 1", "send 12 free 1 0",
                     "send 12 free 0 100001", "send 12 note 1000", "send 12 note 1", "send 11 free 0 1", "again 11",
                     "told 11", "offsets 11", "letter 11", "laid 11 0", "laid 12 1", "row 11 0 0", "row 12 1 0", "value 11 0 0",
                     "value 12 1 0", "lacks 1 3"):
            self.same(desk.say(line), "refused")
        self.same(state(desk.world), kept)

    def test_deaf(self):
        desk = led_desk(LED[:4])
        self.same([desk.say(line) for line in ("told 10", "offsets 10", "letter 10", "laid 10 0", "row 10 0 0", "value 10 0 0")],
                  ["deaf"] + ["refused"] * 5)
        self.same([desk.say(line) for line in ("told 9", "lacks 0 3", "lacks 0 0", "lacks 1 0")], ["refused", "0:2", "-", "refused"])

    def test_quarrels(self):
        # No line leads there; so the logs are made so by hand.
        desk = led_desk()
        heard = desk.world.logs[1][0]
        desk.world.logs = (desk.world.logs[0], (heard[:2] + (heard[2][:4] + ((),),),))
        self.same([desk.say(line) for line in (
            "told 12", "offsets 12", "letter 12", "laid 12 0", "row 12 0 0", "value 12 0 0", "lacks 0 3", "told 11")],
            ["quarrel frames"] + ["refused"] * 7)
        desk.world.logs = ((("heard", 14, heard[2]),), (heard,))
        self.same(desk.say("told 14"), "quarrel offsets")

    def test_words(self):
        desk = led_desk()
        self.same(desk.say("letter 12"), "open")
        self.same([desk.say("frame 5"), desk.say("hear 0 12 1"), desk.say("letter 12")], ["frame 1", "heard", "-"])
        self.same([desk.say("come 5 1"), desk.say("come 6 1")], ["refused"] * 2)
        desk = led_desk(LED[:3] + ("send 8 note 5", "hear 0 11 0"))
        self.same([desk.say(line) for line in ("letter 11", "letter 99")], ["untaken"] * 2)
        desk = led_desk(LED[:4] + ("again 10", "lay 0 5 9", "come 5 1", "come 5 1"))
        self.same(desk.say("come 5 1"), "not taken")

    def test_several_stretches(self):
        desk = Desk((((1, 3, 2), (2, 2, 3)), (0, 4), (0, 0)), -2, 1)
        for line in ("lay 0 0 1", "lay 1 0 -9", "lay 0 1 5", "lay 0 2 3", "lay 1 2 4", "lay 0 3 4", "lay 0 4 0", "lay 1 4 4", "frame 4 0:0 1:0"):
            self.assertNotEqual(desk.say(line), "refused")
        self.same(desk.say("hear 0 3 0"), "heard")
        self.same(desk.say("offsets 3"), "-5:-1")
        self.same(desk.say("value 3 1 0"), "-9:-9")
        self.same(desk.say("value 3 1 99"), "-1000000:1000000")
        self.same(desk.say("value 3 0 0"), "1:1 5:5")
        self.same(desk.say("lacks 0 9"), "2:8")
        self.same(desk.say("lacks 1 5"), "1:4")
        self.same(desk.say("laid 3 1"), "3 4 5")
        self.same(desk.say("row 3 1 4"), "aboard 4 1 | later")


class Asking(Case):
    def test_what_is_told_hangs_on_the_logs_alone(self):
        chance, told, many = random.Random(78), 0, 0
        for _ in range(60):
            setup = random_setup(chance, chance.randrange(1, 3), 3)
            offset, houses = chance.randrange(-2, 4), chance.randrange(1, 3)
            desk, quiet, world = Desk(setup, offset, houses), Desk(setup, offset, houses), World(setup, offset, houses)
            stamp = 0
            for _ in range(30):
                stamp += chance.randrange(3) == 0
                line, deed = self.line(chance, setup, houses, stamp, max(0, stamp + offset))
                if chance.randrange(3):
                    wanted = self.by_hand(world, deed)
                    self.same((desk.say(line), quiet.say(line)), (wanted, wanted))
                else:
                    now = max([0] + [row[1] for log in world.logs for row in log]) + chance.randrange(-1, 3)
                    kept = state(desk.world)
                    for asked, wanted in self.asked(chance, setup, world.logs, max(0, now)):
                        self.same(desk.say(asked), wanted)
                        many += 1
                        told += wanted not in ("refused", "deaf")
                    self.same(state(desk.world), kept)
            self.same(state(desk.world), state(world))
            self.same(state(quiet.world), state(world))
        self.assertGreater(told, 300)
        self.assertGreater(many, told + 300)

    def line(self, chance, setup, houses, stamp, tick):
        kind, number, house = chance.randrange(len(setup[0])), chance.randrange(3), chance.randrange(houses)
        value, below = chance.randrange(-9, 10), chance.randrange(4)
        places = [(kind, place) for place in range(chance.randrange(3))]
        return chance.choice((
            (f"lay {kind} {stamp} {value}", ("lay", kind, stamp, value)),
            (f"lay {kind} {stamp} {value}", ("lay", kind, stamp, value)),
            (f"lay {kind} {stamp} {value}", ("lay", kind, stamp, value)),
            (" ".join([f"frame {stamp}"] + [f"{one}:{place}" for one, place in places]), ("frame", stamp, places)),
            (f"come {stamp} {number}", ("come", stamp, number)),
            (f"hear {house} {tick} {number}", ("hear", house, tick, number)),
            (f"send {tick} free {kind} {below}", ("send", tick, ("free", kind, below))),
            (f"send {tick} note {below}", ("send", tick, ("note", below))),
            (f"again {tick}", ("again", tick))))

    def by_hand(self, world, deed):
        try:
            found = getattr(world, deed[0])(*deed[1:])
        except (errors.FarError, errors.NoClass, errors.NoLetter, errors.NoRow):
            return "refused"
        if deed[0] == "come":
            return "taken" if found else "not taken"
        return {"lay": f"row {found}", "frame": f"frame {found[0] if deed[0] == 'frame' else 0}", "hear": "heard",
                "send": f"letter {found}", "again": f"letter {found}"}[deed[0]]

    def asked(self, chance, setup, logs, now):
        """Lines that ask, and what there is to say, by the functions that tell of logs."""
        kind, row = chance.randrange(len(setup[0]) + 1), chance.randrange(6)
        early = now < max([0] + [row[1] for log in logs for row in log])
        deaf = not frames_of(logs)
        yield f"told {now}", "refused" if early else "deaf" if deaf else "told"
        spans = () if kind == len(setup[0]) else known_of(setup, logs)[kind]
        yield f"lacks {kind} {row}", "refused" if kind == len(setup[0]) else self.text(lacks(setup, known_of(setup, logs), kind, row))
        for line, is_of_kind, answer in (
            (f"offsets {now}", False, lambda: self.text(offsets(setup, logs))),
            (f"letter {now}", False, lambda: letter_word(setup, logs, now) or "-"),
            (f"laid {now} {kind}", True, lambda: " ".join(map(str, laid_now(setup, logs, now, kind)))),
            (f"row {now} {kind} {row}", True, lambda: " | ".join(
                " ".join(map(str, word)) for word, _ in row_words(setup, logs, now, kind, row))),
            (f"value {now} {kind} {row}", True, lambda: self.text(values_of(spans, row))),
        ):
            yield line, "refused" if early or deaf or is_of_kind and kind == len(setup[0]) else answer()

    def text(self, stretches):
        return " ".join(f"{low}:{high}" for low, high in stretches) or "-"


class Limits(Case):
    def test_four_hundred_lines(self):
        setup = (((1, 2, 2), (2, 3, 4)), (0, 19), (0, 3))
        desk, lines = Desk(setup, 5, 2), []
        for stamp in range(40):
            tick = stamp + 5
            lines += [f"lay 0 {stamp} {stamp}"] + [f"lay 1 {stamp} -{stamp}"] * (stamp % 2)
            lines += [f"frame {stamp} 0:0", f"hear {stamp % 2} {tick} {stamp}", f"send {tick} free 0 {stamp}", f"told {tick}",
                      f"offsets {tick}", f"letter {tick}", f"laid {tick} 0", f"row {tick} 0 {stamp}", f"value {tick} 1 0"]
        start = time.time()
        said = [desk.say(line) for line in lines[:400]]
        self.assertLess(time.time() - start, 30)
        self.assertLess(said.count("refused"), 45)
