"""Points 71, 72, 74: what is told."""

import time

from farstory.errors import BadLog, BadSetup, NoClass, NoRow, Quarrel
from farstory.meaning import meaning, row_meaning, value_story
from farstory.stories import story_holds
from farstory.values import values_of
from tests.helping import NO_INTEGERS, NO_NUMBERS, ODD, Case, lists
from tests.plain import flights, frames_of, frees_of, letters_of, plain_holds, plain_word, store_at
from tests.test_houses import plain_view

SETUP = (((2, 3, 2),), (1, 2), (1, 1))
FRAME = (0, 4, 0, ((2, 0, 3),), ((0, (0, 1, 7, 7, 7)),))
FREE = (1, ("free", 0, 1))
LOGS = ((("sent", 10, FREE), ("heard", 12, FRAME)), (("heard", 11, FRAME),))
DEAF = ((("sent", 10, FREE),), ())
CROSSED = (LOGS[0], (("heard", 11, FRAME[:4] + ((),)),))
PARTED = (LOGS[0], (("heard", 14, FRAME),))


def plain_spans(logs, kind):
    return tuple(sorted({span for log in logs for row in log if row[0] == "heard" for at, span in row[2][4] if at == kind}))


def has_in(setup, logs, now, story, kind, row):
    """(the word, the value) of a row in a story."""
    offset, takings, rows = story
    frees = frees_of(letters_of(logs), takings, kind)
    store = store_at(setup[0][kind], [at for at, _ in rows[kind]], frees, now - offset)
    return plain_word(store, row), rows[kind][row][1]


class Wrong(Case):
    def test_meaning(self):
        self.fails(BadSetup, -1, meaning, None, None, None)
        self.fails(BadLog, -1, meaning, SETUP, None, None)
        for logs in (LOGS, CROSSED):
            for value in NO_INTEGERS + (-1, 0, 11):
                self.refuses(value, meaning, SETUP, logs, value)
        for value in NO_INTEGERS + (-1, 9):
            self.refuses(value, meaning, SETUP, DEAF, value)

    def test_rows(self):
        for function, more in ((row_meaning, ()), (value_story, (None, None))):
            self.fails(BadSetup, -1, function, None, None, None, None, None, *more)
            self.fails(BadLog, -1, function, SETUP, None, None, None, None, *more)
            for value in NO_INTEGERS + (-1, 11):
                self.refuses(value, function, SETUP, LOGS, value, None, None, *more)
            for logs in (DEAF, lists(DEAF)):
                self.refuses(logs, function, SETUP, logs, 10, None, None, *more)
            self.fails(Quarrel, ("frames", 0), function, SETUP, CROSSED, 12, None, None, *more)
            self.fails(Quarrel, ("offsets", (((6, 7),), ((8, 9),))), function, SETUP, PARTED, 14, None, None, *more)
            for value in NO_NUMBERS + (1, 2):
                self.fails(NoClass, value, function, SETUP, LOGS, 12, value, None, *more)
            for value in NO_NUMBERS:
                self.fails(NoRow, value, function, SETUP, LOGS, 12, 0, value, *more)
        for value in NO_INTEGERS:
            self.refuses(value, value_story, SETUP, LOGS, 12, 0, 0, None, value)

    def test_words_that_are_none(self):
        for word in ODD + (("later",), ("gone", 0), ("aboard",), ("aboard", 0), ("aboard", 0, True), ("aboard", False, 2),
                           ("aboard", 0, 2, 7), "gone", "aboard", ("aboard", 0, 1), ("aboard", 1, 1), (("gone",),)):
            self.same(value_story(SETUP, LOGS, 12, 0, 0, word, 7), None)


class Meaning(Case):
    def test_example(self):
        self.same(meaning(SETUP, LOGS, 12), (
            "told", ((6, 6),), "open", (((3,), ((0, 3), (1, 3)), ((0, 1, 7, 7, 7),)),)))
        self.same(meaning(lists(SETUP), lists(LOGS), 12), meaning(SETUP, LOGS, 12))
        self.same(meaning(SETUP, LOGS[1:], 12)[2], None)

    def test_deaf_and_quarrels(self):
        for logs in (DEAF, ((),), ((), (), ())):
            self.same(meaning(SETUP, logs, 10), ("deaf",))
        self.same(meaning(SETUP, CROSSED, 12), ("quarrel", ("frames", 0)))
        self.same(meaning(SETUP, PARTED, 14), ("quarrel", ("offsets", (((6, 7),), ((8, 9),)))))
        taken = ((("heard", 12, FRAME[:2] + (1,) + FRAME[3:]),),)
        self.same(meaning(SETUP, taken, 12), ("quarrel", ("taken", 0)))
        late = ((("heard", 12, (0, 4, 0, ((2, 0, 0),), ())),),)
        self.same(meaning(SETUP, late, 12), ("quarrel", ("segment", None, 0)))
        later = (1, 5, 0, ((2, 0, 3),), ((0, (0, 1, 8, 8, 8)),))
        found = meaning(SETUP, (LOGS[0] + (("heard", 13, later),),), 13)
        self.same(found[:1] + found[1][:2], ("quarrel", "values", 0))

    def test_by_force(self):
        for setup, logs, now, _ in flights(1, 60):
            offsets, word, marks = plain_view(setup, logs, now)
            kinds = tuple((tuple(sorted({laid for _, laid in told})), told, plain_spans(logs, kind))
                          for kind, told in enumerate(marks))
            self.same(meaning(setup, logs, now), ("told", offsets, word, kinds))


class Rows(Case):
    def test_example(self):
        self.same(row_meaning(SETUP, LOGS, 12, 0, 0), ((("aboard", 0, 2), ("gone",)), ((7, 7),)))
        self.same(row_meaning(SETUP, LOGS, 12, 0, 1), ((("aboard", 0, 2), ("aboard", 1, 1)), ((-10 ** 6, 10 ** 6),)))
        self.same(row_meaning(lists(SETUP), lists(LOGS), 13, 0, 3), ((("aboard", 3, 1), ("later",)), ((-10 ** 6, 10 ** 6),)))
        # Also of rows that cannot be laid yet.
        self.same(row_meaning(SETUP, LOGS, 12, 0, 99), ((("later",),), ((-10 ** 6, 10 ** 6),)))

    def test_values_late_and_early(self):
        for word, value, is_there in ((("aboard", 0, 2), 7, True), (("gone",), 7, True), (("gone",), 8, False),
                                      (("aboard", 0, 1), 7, False), (("later",), 7, False)):
            found = value_story(SETUP, LOGS, 12, 0, 0, word, value)
            self.same(found is not None, is_there)
            if is_there:
                self.same(story_holds(SETUP, LOGS, 12, found), True)
                self.same(has_in(SETUP, LOGS, 12, found, 0, 0), (word, value))
            self.same(value_story(lists(SETUP), lists(LOGS), 12, 0, 0, list(word), value), found)
        for row, word in ((1, ("aboard", 1, 1)), (2, ("aboard", 2, 1))):
            for value in (-10 ** 6, 0, 10 ** 6):
                found = value_story(SETUP, LOGS, 12, 0, row, word, value)
                self.same(has_in(SETUP, LOGS, 12, found, 0, row), (word, value))
            for value in (-10 ** 6 - 1, 10 ** 6 + 1, 256 ** 201):
                self.same(value_story(SETUP, LOGS, 12, 0, row, word, value), None)
        self.same(value_story(SETUP, LOGS, 12, 0, 3, ("later",), 0), None)
        self.same(value_story(SETUP, LOGS, 12, 0, 3, ("aboard", 3, 1), 0), None)
        found = value_story(SETUP, LOGS, 13, 0, 3, ("aboard", 3, 1), -5)
        self.same(has_in(SETUP, LOGS, 13, found, 0, 3), (("aboard", 3, 1), -5))

    def test_by_force(self):
        told, none = 0, 0
        for setup, logs, now, present in flights(1, 60):
            for kind in range(len(setup[0])):
                spans = plain_spans(logs, kind)
                for row in range(max(laid for laid, _ in present[3][kind]) + 2):
                    words = tuple(sorted({plain_word(store, row) for store in present[3][kind]}))
                    stretches = values_of(spans, row)
                    self.same(row_meaning(setup, logs, now, kind, row), (words, stretches))
                    values = sorted({end + more for ends in stretches for end in ends for more in (-1, 0, 1)})
                    for word in words + (("gone",), ("aboard", row, 1), ("aboard", row, 2)):
                        for value in values[::2]:
                            found = value_story(setup, logs, now, kind, row, word, value)
                            can_be = any(low <= value <= high for low, high in stretches)
                            if word in words and word != ("later",) and can_be:
                                told += 1
                                self.assertIs(story_holds(setup, logs, now, found), True)
                                self.assertTrue(plain_holds(setup, logs, now, found))
                                self.same(has_in(setup, logs, now, found, kind, row), (word, value))
                            else:
                                none += 1
                                self.assertIsNone(found)
        self.assertGreater(min(told, none), 300)


class Limits(Case):
    def test_forty_stamps_twenty_offsets(self):
        setup = (tuple((1, 40, keep) for keep in (2, 3, 4, 5, 6, 8)), (0, 19), (0, 19))
        frames = [(stamp, stamp, 0, ((stamp + 1, 0, stamp),) * 6, ((stamp % 6, (stamp, 1, 3, 3, 3)),)) for stamp in range(120, 160)]
        log = tuple(("heard", frame[1] + 119, frame) for frame in frames)
        logs = (log + (("sent", 279, (1, ("free", 0, 100000))),),)
        start = time.time()
        found = meaning(setup, logs, 299)
        self.same((found[0], found[1], found[2], len(found[3])), ("told", ((100, 119),), "open", 6))
        for kind, row in ((0, 3), (0, 170), (5, 159)):
            words, stretches = row_meaning(setup, logs, 299, kind, row)
            for word in words:
                story = value_story(setup, logs, 299, kind, row, word, stretches[0][0])
                self.same(story is None, word == ("later",))
                if story is not None:
                    self.same(story_holds(setup, logs, 299, story), True)
        self.assertLess(time.time() - start, 15)
        self.assertEqual(len(frames_of(logs)), 40)
