"""Plain reckoning of stories, and flights led at random: nothing of it is taken from the package."""

import functools
import random


def plain_lay(spans, keep, row):
    """The (first, many) of spans, led on by the rule of point 14, word by word."""
    spans = spans + [(row, 1)]
    while True:
        sizes = sorted({many for _, many in spans if len([1 for _, other in spans if other == many]) > keep})
        if not sizes:
            return spans
        one, other = [at for at, (_, many) in enumerate(spans) if many == sizes[0]][:2]
        assert other == one + 1
        spans = spans[:one] + [(spans[one][0], 2 * sizes[0])] + spans[other + 1:]


def plain_free(spans, below):
    return [span for span in spans if span[0] + span[1] > below]


def plain_span(place, values):
    """The told span of these rows."""
    had = values[place[0]:place[0] + place[1]]
    return place[0], place[1], sum(had), min(had), max(had)


def chains(kind, end):
    """All ways in which rows of a kind can be laid up to a stamp, the next one coming behind it."""
    gap, pause, _ = kind
    whole, open_ones = [], [()]
    while open_ones:
        ahead = open_ones.pop()
        least, most = (ahead[-1] + gap, ahead[-1] + pause) if ahead else (0, pause)
        if most > end:
            whole.append(ahead)
        open_ones += [ahead + (stamp,) for stamp in range(least, most + 1) if stamp <= end]
    return whole


def store_at(kind, stamps, frees, stamp):
    """(laid, spans) of a kind at a stamp: (stamp of taking, below) lets go, behind the rows of that stamp."""
    spans, laid = [], 0
    for _, word, what in sorted([(at, 0, row) for row, at in enumerate(stamps)] + [(at, 1, low) for at, low in frees]):
        if _ <= stamp:
            spans = plain_free(spans, what) if word else plain_lay(spans, kind[2], what)
            laid += 1 - word
    return laid, spans


def frees_of(letters, takings, kind):
    """(stamp of taking, below) of the letters taken that let rows of a kind go."""
    return [(stamp, letter[1][2]) for letter, stamp in zip(letters, takings)
            if stamp is not None and letter[1][0] == "free" and letter[1][1] == kind]


def agrees(setup, kind, stamps, frees, frames):
    """Whether rows of a kind are as all frames tell of it (but for values)."""
    for frame in frames:
        laid, spans = store_at(setup[0][kind], stamps, frees, frame[1])
        last = max([stamp for stamp in stamps if stamp <= frame[1]], default=None)
        if frame[3][kind] != (laid, spans[0][0] if spans else laid, last):
            return False
        if not all(span[:2] in spans for at, span in frame[4] if at == kind):
            return False
    return True


def letters_of(logs):
    """By number (number, deed, ticks)."""
    sent = [(row[1], row[2]) for row in logs[0] if row[0] == "sent"]
    numbers = sorted({letter[0] for _, letter in sent})
    return [(number, [letter[1] for _, letter in sent if letter[0] == number][0],
             tuple(tick for tick, letter in sent if letter[0] == number)) for number in numbers]


def frames_of(logs):
    """The frames by number; None if two of one number are unlike."""
    frames = {row[2] for log in logs for row in log if row[0] == "heard"}
    if len({frame[0] for frame in frames}) < len(frames):
        return None
    return sorted(frames)


def takings_by(setup, letters, offset, now):
    """All stamps at which letters can have been taken, one behind another, by the ways of their copies."""
    least, most = setup[2]
    found = [()]
    for _, _, ticks in letters:
        stamps = sorted({tick + way - offset for tick in ticks for way in range(least, most + 1)})
        longer = []
        for takings in found:
            longer.append(takings + (None,))
            if None not in takings:
                longer += [takings + (stamp,) for stamp in stamps
                           if 0 <= stamp <= now - offset and (not takings or takings[-1] <= stamp)]
        found = longer
    return found


def all_stories(setup, logs, now, tried=()):
    """(offset, takings, by kind all rows' stamps that can be) of all stories, values left out; what is tried: offsets."""
    frames, letters = frames_of(logs), letters_of(logs)
    if frames is None or any(one[1] >= other[1] for one, other in zip(frames, frames[1:])):
        return
    ways = [(row[1] - row[2][1]) for log in logs for row in log if row[0] == "heard"]
    down = setup[1]
    if ways:
        tried = range(max(ways) - down[1], min(ways) - down[0] + 1)
    for offset in tried:
        rows = [chains(kind, now - offset) for kind in setup[0]]
        for takings in takings_by(setup, letters, offset, now):
            if any(frame[2] != len([1 for stamp in takings if stamp is not None and stamp <= frame[1]])
                   for frame in frames):
                continue
            # Letters are taken in the order of their numbers, from 1 on.
            if [letter[0] for letter, stamp in zip(letters, takings) if stamp is not None] != [
                    1 + at for at, stamp in enumerate(takings) if stamp is not None]:
                continue
            fitting = [[stamps for stamps in rows[kind]
                        if agrees(setup, kind, stamps, frees_of(letters, takings, kind), frames)]
                       for kind in range(len(setup[0]))]
            if all(fitting):
                yield offset, takings, fitting


def plain_out(frames, letters):
    number = frames[-1][2] + 1 if frames else 1
    return [at for at, letter in enumerate(letters) if letter[0] == number]


def plain_present(setup, logs, now):
    """(offsets, whether the letter that is out can be taken, by kind pairs, by kind (laid, spans))."""
    letters, frames = letters_of(logs), frames_of(logs)
    out = plain_out(frames, letters)
    offsets, taken = set(), False
    pairs, stores = [set() for _ in setup[0]], [set() for _ in setup[0]]
    for offset, takings, fitting in all_stories(setup, logs, now):
        offsets.add(offset)
        stamp = takings[out[0]] if out else None
        taken = taken or stamp is not None
        for kind, rows in enumerate(fitting):
            for stamps in rows:
                ahead = None if stamp is None else len([1 for at in stamps if at <= stamp])
                pairs[kind].add((ahead, len(stamps)))
                laid, spans = store_at(setup[0][kind], stamps, frees_of(letters, takings, kind), now - offset)
                stores[kind].add((laid, tuple(spans)))
    return offsets, taken, pairs, stores


def plain_word(store, row):
    laid, spans = store
    if row >= laid:
        return ("later",)
    having = [span for span in spans if span[0] <= row < span[0] + span[1]]
    return ("aboard",) + having[0] if having else ("gone",)


class Flight:
    """A probe, letters and frames on their way, and houses: led at random, by plain lists."""

    def __init__(self, chance, setup, offset, houses):
        self.chance, self.setup, self.offset = chance, setup, offset
        self.rows = [[] for _ in setup[0]]
        self.stores = [[] for _ in setup[0]]
        self.taken, self.takings, self.number = 0, [], 0
        self.copies, self.frames, self.deeds = [], [], {}
        self.logs = [[] for _ in range(houses)]

    def step(self, tick, eager):
        """What is done at a tick, each thing with a chance of one in so many."""
        stamp = tick - self.offset
        if stamp >= 0:
            self.lay(stamp, eager)
            self.come(stamp, eager)
            if self.chance.randrange(eager) == 0:
                self.send_frame(tick, stamp)
        if tick >= 0:
            self.hear(tick, eager)
            if self.chance.randrange(eager) == 0:
                self.send_letter(tick)

    def lay(self, stamp, eager):
        for kind, (gap, pause, keep) in enumerate(self.setup[0]):
            rows = self.rows[kind]
            least, most = (rows[-1][0] + gap, rows[-1][0] + pause) if rows else (0, pause)
            if stamp == most or least <= stamp and self.chance.randrange(eager) == 0:
                self.stores[kind] = plain_lay(self.stores[kind], keep, len(rows))
                rows.append((stamp, self.chance.randrange(-9, 10)))

    def come(self, stamp, eager):
        least, most = self.setup[2]
        for tick, (number, deed) in list(self.copies):
            if least <= stamp + self.offset - tick <= most and self.chance.randrange(eager) == 0:
                if number == self.taken + 1:
                    self.taken = number
                    self.takings.append(stamp)
                    if deed[0] == "free":
                        self.stores[deed[1]] = plain_free(self.stores[deed[1]], deed[2])

    def marks(self):
        return tuple(
            (len(rows), spans[0][0] if spans else len(rows), rows[-1][0] if rows else None)
            for rows, spans in zip(self.rows, self.stores))

    def send_frame(self, tick, stamp):
        cargo = []
        for kind, spans in enumerate(self.stores):
            values = [value for _, value in self.rows[kind]]
            cargo += [(kind, plain_span(span, values)) for span in spans if self.chance.randrange(2)]
        self.chance.shuffle(cargo)
        self.frames.append((tick, (self.number, stamp, self.taken, self.marks(), tuple(cargo))))
        self.number += 1

    def hear(self, tick, eager):
        least, most = self.setup[1]
        for sent, frame in self.frames:
            for log in self.logs:
                if least <= tick - sent <= most and self.chance.randrange(eager) == 0:
                    log.append(("heard", tick, frame))

    def next_number(self):
        return 1 + max([row[2][2] for row in self.logs[0] if row[0] == "heard"], default=0)

    def send_letter(self, tick):
        number = self.next_number()
        if number not in self.deeds:
            kind = self.chance.randrange(len(self.setup[0]))
            free = ("free", kind, self.chance.randrange(len(self.rows[kind]) + 2))
            self.deeds[number] = self.chance.choice((free, free, ("note", self.chance.randrange(3))))
        letter = (number, self.deeds[number])
        self.copies.append((tick, letter))
        self.logs[0].append(("sent", tick, letter))

    def story(self, now):
        """What truly was up to a tick at which the deeds of all earlier stamps are done."""
        letters = [row[2][0] for row in self.logs[0] if row[0] == "sent"]
        takings = self.takings + [None] * len(set(letters))
        rows = tuple(tuple(row for row in rows if row[0] <= now - self.offset) for rows in self.rows)
        return self.offset, tuple(takings[:len(set(letters))]), rows


def random_setup(chance, kinds, wide):
    steps = []
    for _ in range(kinds):
        gap = chance.randrange(1, 4)
        steps.append((gap, gap + chance.randrange(3), chance.choice((2, 2, 3))))
    ways = []
    for _ in range(2):
        least = chance.randrange(3)
        ways.append((least, least + chance.randrange(wide)))
    return tuple(steps), ways[0], ways[1]


def random_flight(chance, end, kinds=2, wide=3):
    """(setup, flight) up to a tick."""
    setup = random_setup(chance, chance.randrange(1, kinds + 1), wide)
    flight = Flight(chance, setup, chance.randrange(-2, 4), chance.randrange(1, 4))
    eager = chance.randrange(2, 5)
    flight.end = max(end, flight.offset - 1)
    for tick in range(flight.offset, end + 1):
        flight.step(tick, eager)
    return setup, flight


def frozen(logs):
    return tuple(tuple(log) for log in logs)


def bent_frame(chance, frame):
    """A frame with one thing of it bent."""
    number, stamp, taken, marks, cargo = frame
    word = chance.randrange(6)
    if word == 0:
        return number, max(0, stamp + chance.choice((-1, 1))), taken, marks, cargo
    if word == 1:
        return number, stamp, max(0, taken + chance.choice((-1, 1))), marks, cargo
    kind, part = chance.randrange(len(marks)), chance.choice((0, 1, 2, 2))
    mark = list(marks[kind])
    if mark[part] is not None:
        mark[part] = max(0, mark[part] + chance.choice((-1, 1)))
    marks = marks[:kind] + (tuple(mark),) + marks[kind + 1:]
    return number, stamp, taken, marks, () if chance.randrange(2) else cargo


def bent(chance, logs):
    """The logs with one frame bent wherever it was heard, or one tick of hearing or sending bent."""
    heard = [row[2] for log in logs for row in log if row[0] == "heard"]
    if heard and chance.randrange(2):
        frame = chance.choice(heard)
        other = bent_frame(chance, frame)
        return tuple(tuple((row[0], row[1], other if row[2] == frame else row[2]) for row in log) for log in logs)
    house = chance.randrange(len(logs))
    if not logs[house]:
        return logs
    at = chance.randrange(len(logs[house]))
    word, tick, what = logs[house][at]
    log = logs[house][:at] + ((word, max(0, tick + chance.randrange(-2, 3)), what),) + logs[house][at + 1:]
    return logs[:house] + (log,) + logs[house + 1:]


def part_of(chance, logs, share):
    """The logs without some rows: what is left is a log still, if its numbers are."""
    return tuple(tuple(row for row in log if chance.randrange(share)) for log in logs)


def plain_steps(kind, stamps, end):
    """Whether stamps are a way in which rows of a kind can be laid up to a stamp, the next one coming behind it."""
    gap, pause, _ = kind
    ahead = None
    for stamp in stamps:
        least, most = (0, pause) if ahead is None else (ahead + gap, ahead + pause)
        if not least <= stamp <= min(most, end):
            return False
        ahead = stamp
    return (pause if ahead is None else ahead + pause) > end


def plain_holds(setup, logs, now, story):
    """Word by word as point 36 has it, of a story in its form."""
    offset, takings, rows = story
    frames, letters = frames_of(logs), letters_of(logs)
    down, up = setup[1:]
    if frames is None or any(one[1] >= other[1] for one, other in zip(frames, frames[1:])):
        return False
    if not all(plain_steps(kind, [row[0] for row in laid], now - offset) for kind, laid in zip(setup[0], rows)):
        return False
    for letter, stamp in zip(letters, takings):
        if stamp is not None and (stamp + offset > now or not any(
                up[0] <= stamp + offset - tick <= up[1] for tick in letter[2])):
            return False
    if not all(down[0] <= row[1] - row[2][1] - offset <= down[1] for log in logs for row in log if row[0] == "heard"):
        return False
    taken = [letter[0] for letter, stamp in zip(letters, takings) if stamp is not None]
    if taken != list(range(1, len(taken) + 1)):
        return False
    for frame in frames:
        if frame[2] != len([1 for stamp in takings if stamp is not None and stamp <= frame[1]]):
            return False
        for kind, laid in enumerate(rows):
            stamps = [row[0] for row in laid]
            if not agrees(setup, kind, stamps, frees_of(letters, takings, kind), [frame]):
                return False
        for kind, span in frame[4]:
            if span != plain_span(span[:2], [row[1] for row in rows[kind]]):
                return False
    return True


@functools.lru_cache(maxsize=None)
def flights(first, many, end=11):
    """(setup, logs, now, all that is so at now by force) of so many flights whose logs have a story."""
    found, seed = [], first
    while len(found) < many:
        chance = random.Random(seed)
        seed += 1
        setup, flight = random_flight(chance, chance.randrange(4, end + 1))
        logs = frozen(flight.logs)
        if frames_of(logs):
            now = max([row[1] for log in logs for row in log]) + chance.randrange(4)
            present = plain_present(setup, logs, now)
            # A letter that let rows go, or can have, and offsets that are open are worth more than others.
            if chance.randrange(3) == 0 or present[1] and len(present[0]) > 1:
                found.append((setup, logs, now, present))
    return found


def parted_logs(chance):
    """(setup, logs) of a letter, taken between two frames, of which copies were sent at several ticks far apart."""
    way = chance.randrange(3)
    setup = (((1, 2, 2),), (0, chance.randrange(4, 12)), (way, way + chance.randrange(2)))
    offset, stamp, step = chance.randrange(3), chance.randrange(1, 4), chance.randrange(1, 3)
    one = (0, stamp, 0, ((stamp + 1, 0, stamp),), ())
    other = (3, stamp + step, 1, ((stamp + step + 1, 0, stamp + step),), ())
    copies = sorted({max(0, stamp + step + offset - way + more) for more in (0, chance.randrange(-4, 6), chance.randrange(9))})
    ticks = [frame[1] + offset + chance.randrange(setup[1][1] + 1) for frame in (one, other)]
    rows = [("sent", tick, (1, ("note", 7))) for tick in copies]
    return setup, (tuple(rows), (("heard", ticks[0], one),), (("heard", ticks[1], other),))


def pinned_logs(chance):
    """(setup, logs) of one frame, ahead of which a letter was taken: each offset that can be pins its stamp."""
    gap = chance.randrange(1, 3)
    kind, other = (gap, gap + chance.randrange(4), 2), (1, 3, 2)
    setup = ((other, kind), (0, chance.randrange(3, 9)), (0, 0))
    end = chance.randrange(4, 12)
    rows = [chance.choice(chains(one, end)) for one in setup[0]]
    taking, below = chance.randrange(end + 1), chance.randrange(5)
    deed = chance.choice((("free", 1, below), ("free", 1, below), ("note", 1)))
    letter = (1, deed, ())
    marks = []
    for at, one in enumerate(setup[0]):
        laid, spans = store_at(one, rows[at], frees_of([letter], [taking], at), end)
        marks.append((laid, spans[0][0] if spans else laid, rows[at][-1] if laid else None))
    offset = chance.randrange(3)
    tick = end + offset + chance.randrange(setup[1][1] + 1)
    sent = ("sent", taking + offset, (1, deed))
    return setup, ((sent,), (("heard", tick, (4, end, 1, tuple(marks), ())),))
