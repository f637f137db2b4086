"""Points 42 to 45: how many rows are laid, and the letter that is out."""

from farstory.counts import laid_now, letter_word, pairs
from farstory.errors import BadLog, BadSetup, NoClass, Quarrel
from farstory.probe import Probe
from tests.helping import NO_INTEGERS, NO_NUMBERS, Case, lists
from tests.plain import all_stories, flights, frames_of, letters_of, plain_out

SETUP = (((2, 3, 2),), (1, 2), (1, 1))
FRAME = (0, 4, 0, ((2, 0, 3),), ((0, (0, 1, 7, 7, 7)),))
FREE = (1, ("free", 0, 1))
LOGS = ((("sent", 10, FREE), ("heard", 12, FRAME)), (("heard", 11, FRAME),))
DEAF = ((("sent", 10, FREE),), ())
FUNCTIONS = ((letter_word, ()), (pairs, (0,)), (laid_now, (0,)))


def order(pair):
    """By laid, then ahead, `None` first."""
    return pair[1], -1 if pair[0] is None else pair[0]


class Wrong(Case):
    def test_errors_in_their_order(self):
        crossed = (LOGS[0], (("heard", 11, FRAME[:4] + ((),)),))
        parted = (LOGS[0], (("heard", 13, FRAME), ("heard", 20, FRAME)))
        for function, more in FUNCTIONS:
            kind = (None,) * len(more)
            self.fails(BadSetup, -1, function, None, None, None, *kind)
            self.fails(BadLog, -1, function, SETUP, None, None, *kind)
            self.fails(BadLog, (1, 0), function, SETUP, (LOGS[0], (None,)), None, *kind)
            for value in NO_INTEGERS + (-1, 0, 11):
                self.refuses(value, function, SETUP, LOGS, value, *kind)
                self.refuses(value, function, SETUP, crossed, value, *kind)
            for value in NO_INTEGERS + (-1, 9):
                self.refuses(value, function, SETUP, DEAF, value, *kind)
            for logs in (DEAF, lists(DEAF), ((),)):
                self.refuses(logs, function, SETUP, logs, 10, *kind)
            self.fails(Quarrel, ("frames", 0), function, SETUP, crossed, 12, *kind)
            self.fails(Quarrel, ("offsets", (((6, 7),), ((7, 8),), ((14, 15),))), function, SETUP, parted, 20, *kind)
        for function in (pairs, laid_now):
            for value in NO_NUMBERS + (1, 2):
                self.fails(NoClass, value, function, SETUP, LOGS, 12, value)


class LetterWord(Case):
    def test_words(self):
        self.same([letter_word(SETUP, LOGS, now) for now in (12, 13, 10 ** 6)], ["open"] * 3)
        self.same(letter_word(lists(SETUP), lists(LOGS), 12), "open")
        # No letter is out: none was sent, or a frame tells it as taken.
        self.same(letter_word(SETUP, LOGS[1:], 12), None)
        told = (("heard", 12, FRAME[:2] + (1,) + FRAME[3:]),)
        self.same(letter_word(SETUP, ((("sent", 9, (1, ("note", 4))),), told), 12), None)
        # A copy that comes at the frame's stamp, or ahead, was not taken; one that comes behind now is not yet.
        for tick, now, word in ((8, 12, "untaken"), (9, 12, "untaken"), (10, 12, "open"), (11, 12, "open"),
                                (12, 12, "untaken"), (12, 13, "open")):
            self.same(letter_word(SETUP, (LOGS[1], (("heard", 12, FRAME),)), now), None)
            logs = ((("sent", tick, FREE),), LOGS[1], (("heard", 12, FRAME),))
            self.same(letter_word(SETUP, logs, now), word)

    def test_one_offset_is_enough(self):
        # The offset is 6 to 8: only by the least one the copy can come behind the frame's stamp.
        setup = (SETUP[0], (0, 2), (1, 1))
        for tick, word in ((9, "untaken"), (10, "open")):
            logs = ((("sent", tick, FREE),), (("heard", 12, FRAME),))
            self.same(letter_word(setup, logs, 12), word)
            self.same(letter_word(setup, logs, 40), word)

    def test_by_force(self):
        told = {}
        for setup, logs, now, present in flights(1, 60):
            word = letter_word(setup, logs, now)
            out = plain_out(frames_of(logs), letters_of(logs))
            self.same(word, None if not out else "open" if present[1] else "untaken")
            told[word] = told.get(word, 0) + 1
        self.assertEqual(len(told), 3)


class Pairs(Case):
    def test_example(self):
        self.same(pairs(SETUP, LOGS, 12, 0), ((None, 3, 6, None), (2, 3, 6, 5), (3, 3, 6, 5)))
        self.same(pairs(lists(SETUP), lists(LOGS), 12, 0), pairs(SETUP, LOGS, 12, 0))
        self.same(laid_now(SETUP, LOGS, 13, 0), (3, 4))
        self.same(laid_now(lists(SETUP), lists(LOGS), 13, 0), (3, 4))

    def test_at_the_stamp_of_the_last_frame(self):
        # The offset is 0; the next row comes at stamp 5 or 6.
        setup = (SETUP[0], (0, 0), (0, 0))
        logs = ((("heard", 4, FRAME), ("sent", 4, FREE)),)
        self.same(pairs(setup, logs, 4, 0), ((None, 2, 0, None),))
        self.same(letter_word(setup, logs, 4), "untaken")
        logs = ((("heard", 4, FRAME), ("sent", 5, FREE)),)
        self.same(pairs(setup, logs, 5, 0), ((None, 2, 0, None), (2, 2, 0, 5), (None, 3, 0, None), (3, 3, 0, 5)))
        self.same(pairs(setup, logs, 6, 0), ((None, 3, 0, None), (2, 3, 0, 5), (3, 3, 0, 5)))

    def test_notes_and_letters_of_other_kinds_part_rows_too(self):
        setup = (SETUP[0] * 2, (0, 0), (0, 0))
        frame = (0, 4, 0, ((2, 0, 3),) * 2, ())
        for deed in (("note", 1), ("free", 0, 1), ("free", 1, 1)):
            logs = ((("heard", 4, frame), ("sent", 5, (1, deed))),)
            for kind in range(2):
                self.same(pairs(setup, logs, 6, kind), ((None, 3, 0, None), (2, 3, 0, 5), (3, 3, 0, 5)))

    def test_by_force(self):
        for setup, logs, now, present in flights(1, 60):
            for kind in range(len(setup[0])):
                found = pairs(setup, logs, now, kind)
                self.assertEqual({pair[:2] for pair in found}, present[2][kind])
                self.same(len(found), len(present[2][kind]))
                self.same(found, tuple(sorted(found, key=order)))
                self.same(laid_now(setup, logs, now, kind), tuple(sorted({laid for _, laid in present[2][kind]})))

    def test_offset_and_stamp_are_those_of_such_a_story(self):
        for setup, logs, now, present in flights(1, 25):
            out = plain_out(frames_of(logs), letters_of(logs))
            had = set()
            for offset, takings, fitting in all_stories(setup, logs, now):
                taking = takings[out[0]] if out else None
                for kind, rows in enumerate(fitting):
                    for stamps in rows:
                        ahead = None if taking is None else len([at for at in stamps if at <= taking])
                        had.add((kind, ahead, len(stamps), offset, taking))
            for kind in range(len(setup[0])):
                for pair in pairs(setup, logs, now, kind):
                    self.assertIn((kind,) + pair, had)


class Limits(Case):
    def test_forty_stamps_twenty_offsets(self):
        setup = (tuple((1, 40, keep) for keep in (2, 3, 4, 5, 6, 8)), (0, 19), (0, 19))
        probe = Probe(setup)
        log = []
        for stamp in range(40):
            for kind in range(6):
                probe.lay(kind, stamp, kind)
            log.append(("heard", stamp + 119, probe.frame(stamp, [(kind, 0) for kind in range(6)])))
        log += [("sent", 159, (1, ("free", 0, 9)))]
        logs = (tuple(log),)
        self.same(letter_word(setup, logs, 179), "open")
        for kind in (0, 5):
            found = pairs(setup, logs, 179, kind)
            self.same(laid_now(setup, logs, 179, kind), tuple(range(40, 81)))
            self.same(found, tuple(sorted(found, key=order)))
            self.assertGreater(len(found), 500)
