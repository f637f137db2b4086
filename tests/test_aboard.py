"""Points 46 to 50: what is aboard, and where a row is."""

import random

from farstory.aboard import row_word, row_words, shapes_at, word_in
from farstory.counts import laid_now
from farstory.errors import BadLog, BadSetup, NoClass, NoRow, Quarrel
from farstory.stories import story_holds
from tests.helping import NO_INTEGERS, NO_NUMBERS, ODD, Case, are_logs, lists
from tests.plain import (
    flights, frames_of, frees_of, letters_of, plain_holds, plain_word, random_flight, frozen, store_at)

SETUP = (((2, 3, 2),), (1, 2), (1, 1))
FRAME = (0, 4, 0, ((2, 0, 3),), ((0, (0, 1, 7, 7, 7)),))
FREE = (1, ("free", 0, 1))
LOGS = ((("sent", 10, FREE), ("heard", 12, FRAME)), (("heard", 11, FRAME),))
DEAF = ((("sent", 10, FREE),), ())
STORY = (6, (5,), (((0, 7), (3, 0), (6, 9)),))


def plain_in(setup, logs, now, story, kind, row):
    """The word of a row in a story, by plain lists."""
    offset, takings, rows = story
    frees = frees_of(letters_of(logs), takings, kind)
    return plain_word(store_at(setup[0][kind], [at for at, _ in rows[kind]], frees, now - offset), row)


class Wrong(Case):
    def test_errors_in_their_order(self):
        crossed = (LOGS[0], (("heard", 11, FRAME[:4] + ((),)),))
        parted = (LOGS[0], (("heard", 14, FRAME),))
        for function, more in ((shapes_at, ()), (row_words, (None,)), (row_word, (None,))):
            self.fails(BadSetup, -1, function, None, None, None, None, *more)
            self.fails(BadLog, -1, function, SETUP, None, None, None, *more)
            for value in NO_INTEGERS + (-1, 0, 11):
                self.refuses(value, function, SETUP, LOGS, value, None, *more)
            for value in NO_INTEGERS + (-1, 9):
                self.refuses(value, function, SETUP, DEAF, value, None, *more)
            self.refuses(DEAF, function, SETUP, DEAF, 10, None, *more)
            self.refuses(lists(DEAF), function, SETUP, lists(DEAF), 10, None, *more)
            self.fails(Quarrel, ("frames", 0), function, SETUP, crossed, 12, None, *more)
            self.fails(Quarrel, ("offsets", (((6, 7),), ((8, 9),))), function, SETUP, parted, 14, None, *more)
            for value in NO_NUMBERS + (1, 2):
                self.fails(NoClass, value, function, SETUP, LOGS, 12, value, *more)
        for function in (row_words, row_word):
            for value in NO_NUMBERS:
                self.fails(NoRow, value, function, SETUP, LOGS, 12, 0, value)

    def test_errors_of_word_in(self):
        self.fails(BadSetup, -1, word_in, None, None, None, None, None, None)
        self.fails(BadLog, -1, word_in, SETUP, None, None, None, None, None)
        for value in NO_INTEGERS + (-1, 11):
            self.refuses(value, word_in, SETUP, LOGS, value, None, None, None)
        no_story = (6, (5,), (((0, 7), (3, 0), (7, 9)),))
        for value in ODD + (STORY[:2], no_story, lists(no_story), (5,) + STORY[1:]):
            self.refuses(value, word_in, SETUP, LOGS, 12, value, None, None)
        # Logs that quarrel have no story that holds.
        crossed = (LOGS[0], (("heard", 11, FRAME[:4] + ((),)),))
        self.refuses(STORY, word_in, SETUP, crossed, 12, STORY, None, None)
        for value in NO_NUMBERS + (1, 2):
            self.fails(NoClass, value, word_in, SETUP, LOGS, 12, STORY, value, None)
        for value in NO_NUMBERS:
            self.fails(NoRow, value, word_in, SETUP, LOGS, 12, STORY, 0, value)
        # A story of logs in which no frame was heard holds, but this is refused at last.
        story = (6, (5,), (((0, 7), (3, 0), (6, 9)),))
        self.refuses(DEAF, word_in, SETUP, DEAF, 12, story, 0, 0)
        self.refuses(lists(DEAF), word_in, SETUP, lists(DEAF), 12, story, 0, 0)
        self.refuses(None, word_in, SETUP, DEAF, 12, None, 0, 0)
        self.fails(NoClass, 1, word_in, SETUP, DEAF, 12, story, 1, 0)
        self.fails(NoRow, -1, word_in, SETUP, DEAF, 12, story, 0, -1)


class Example(Case):
    def test_shapes(self):
        found = shapes_at(SETUP, LOGS, 12, 0)
        self.same([one for one, _ in found], [(3, ((0, 2), (2, 1))), (3, ((1, 1), (2, 1)))])
        for _, story in found:
            self.assertIs(story_holds(SETUP, LOGS, 12, story), True)
        self.same(shapes_at(lists(SETUP), lists(LOGS), 12, 0), found)

    def test_words(self):
        self.same(row_word(SETUP, LOGS, 12, 0, 2), ("sure", ("aboard", 2, 1)))
        self.same([word for word, _ in row_words(SETUP, LOGS, 12, 0, 0)], [("aboard", 0, 2), ("gone",)])
        self.same([word for word, _ in row_words(SETUP, LOGS, 12, 0, 1)], [("aboard", 0, 2), ("aboard", 1, 1)])
        self.same(row_word(SETUP, LOGS, 12, 0, 9), ("sure", ("later",)))
        self.same(row_word(SETUP, LOGS, 12, 0, 10 ** 9), ("sure", ("later",)))
        words = row_words(SETUP, LOGS, 13, 0, 3)
        self.same(row_word(SETUP, LOGS, 13, 0, 3), ("open", words[0], words[-1]))
        self.same([word for word, _ in words], [("aboard", 3, 1), ("later",)])
        self.same(row_words(lists(SETUP), lists(LOGS), 13, 0, 3), words)

    def test_word_in(self):
        self.same([word_in(SETUP, LOGS, 12, STORY, 0, row) for row in range(5)], [
            ("gone",), ("aboard", 1, 1), ("aboard", 2, 1), ("later",), ("later",)])
        untaken = (6, (None,), STORY[2])
        self.same([word_in(SETUP, LOGS, 12, lists(untaken), 0, row) for row in range(4)], [
            ("aboard", 0, 2), ("aboard", 0, 2), ("aboard", 2, 1), ("later",)])

    def test_all_is_let_go(self):
        # Whatever was laid up to the taking goes; what is laid behind it stays.
        logs = ((("sent", 10, (1, ("free", 0, 100000))), ("heard", 12, FRAME)), (("heard", 11, FRAME),))
        self.same([one for one, _ in shapes_at(SETUP, logs, 12, 0)], [
            (3, ((0, 2), (2, 1))), (3, ((2, 1),)), (3, ())])
        self.same([word for word, _ in row_words(SETUP, logs, 12, 0, 2)], [("aboard", 2, 1), ("gone",)])

    def test_nothing_is_laid(self):
        logs = ((("heard", 5, (0, 1, 0, ((0, 0, None),), ())),),)
        setup = (((2, 3, 2),), (0, 0), (0, 0))
        self.same([one for one, _ in shapes_at(setup, logs, 5, 0)], [(0, ())])
        self.same(row_word(setup, logs, 5, 0, 0), ("sure", ("later",)))
        self.same([one for one, _ in shapes_at(setup, logs, 6, 0)], [(0, ()), (1, ((0, 1),))])

    def test_letters_of_another_kind_let_nothing_go(self):
        setup = (SETUP[0] * 2, (0, 0), (0, 0))
        frame = (0, 4, 0, ((2, 0, 3),) * 2, ())
        for deed, many in ((("note", 1), 1), (("free", 1, 1), 1), (("free", 0, 1), 2)):
            logs = ((("heard", 4, frame), ("sent", 5, (1, deed))),)
            self.same(len(shapes_at(setup, logs, 6, 0)), many)


class ByForce(Case):
    def test_shapes(self):
        for setup, logs, now, present in flights(1, 60):
            for kind in range(len(setup[0])):
                found = shapes_at(setup, logs, now, kind)
                self.assertEqual({one for one, _ in found}, present[3][kind])
                self.same(len(found), len(present[3][kind]))
                ways = [(some[0][0] if some else laid, laid) for (laid, some), _ in found]
                self.same(ways, sorted(ways))
                for (laid, some), story in found:
                    self.assertIs(story_holds(setup, logs, now, story), True)
                    self.assertTrue(plain_holds(setup, logs, now, story))
                    frees = frees_of(letters_of(logs), story[1], kind)
                    stamps = [at for at, _ in story[2][kind]]
                    store = store_at(setup[0][kind], stamps, frees, now - story[0])
                    self.same((store[0], tuple(store[1])), (laid, some))

    def test_words(self):
        told = set()
        for setup, logs, now, present in flights(1, 60):
            for kind in range(len(setup[0])):
                top = max(laid for laid, _ in present[3][kind])
                for row in range(top + 2):
                    wanted = sorted({plain_word(store, row) for store in present[3][kind]})
                    found = row_words(setup, logs, now, kind, row)
                    self.same([word for word, _ in found], wanted)
                    told.update(wanted)
                    for word, story in found:
                        self.assertIs(story_holds(setup, logs, now, story), True)
                        self.same(plain_in(setup, logs, now, story, kind, row), word)
                        self.same(word_in(setup, logs, now, story, kind, row), word)
                    if len(wanted) == 1:
                        self.same(row_word(setup, logs, now, kind, row), ("sure", wanted[0]))
                    else:
                        self.same(row_word(setup, logs, now, kind, row), ("open", found[0], found[-1]))
        self.assertGreater(len(told), 20)

    def test_word_in_what_truly_was(self):
        chance = random.Random(48)
        for _ in range(60):
            setup, flight = random_flight(chance, 13)
            logs, now = frozen(flight.logs), flight.end
            offset, takings, rows = flight.story(now)
            takings = tuple(None if stamp is None or stamp + offset > now else stamp for stamp in takings)
            if frames_of(logs):
                for kind, laid in enumerate(rows):
                    for row in range(len(laid) + 2):
                        self.same(word_in(setup, logs, now, (offset, takings, rows), kind, row),
                                  plain_word((len(laid), flight.stores[kind]), row))

    def test_with_further_hearings_what_is_sure_stays(self):
        chance = random.Random(49)
        fewer_ones = 0
        for setup, logs, now, _ in flights(1, 60):
            fewer = tuple(tuple(row for row in log if row[0] == "sent" or chance.randrange(3)) for log in logs)
            if not are_logs(setup, fewer) or not frames_of(fewer) or fewer == logs:
                continue
            fewer_ones += 1
            for kind in range(len(setup[0])):
                self.assertLessEqual({one for one, _ in shapes_at(setup, logs, now, kind)},
                                     {one for one, _ in shapes_at(setup, fewer, now, kind)})
                for row in range(laid_now(setup, logs, now, kind)[-1] + 2):
                    word = row_word(setup, fewer, now, kind, row)
                    if word[0] == "sure":
                        self.same(row_word(setup, logs, now, kind, row), word)
        self.assertGreater(fewer_ones, 20)


class Limits(Case):
    def logs(self):
        setup = (tuple((1, 40, keep) for keep in (2, 3, 4, 5, 6, 8)), (0, 19), (0, 19))
        marks = [((stamp + 1, 0, stamp),) * 6 for stamp in range(160)]
        log = tuple(("heard", stamp + 119, (stamp, stamp, 0, marks[stamp], ((stamp % 6, (stamp, 1, 3, 3, 3)),)))
                    for stamp in range(120, 160))
        return setup, (log + (("sent", 279, (1, ("free", 0, 100000))),),)

    def test_forty_stamps_twenty_offsets(self):
        setup, logs = self.logs()
        for kind in (0, 1, 5):
            found = shapes_at(setup, logs, 299, kind)
            self.assertGreater(len(found), 500 if kind == 0 else 39)
            for _, story in found[::97]:
                self.assertIs(story_holds(setup, logs, 299, story), True)
            for row in (0, 159, 160, 199, 200, 10 ** 6):
                for word, story in row_words(setup, logs, 299, kind, row):
                    self.same(word_in(setup, logs, 299, story, kind, row), word)
