"""Points 66 and 67: books of logs, and folds."""

import itertools
import random
import time

from farstory.book import folded, new_book, open_book, plain_book
from farstory.counts import letter_word
from farstory.errors import BadLog, BadOctets, BadSetup, Broken
from farstory.forms import write_row, write_value
from farstory.houses import view
from farstory.journals import Journal, open_journal, plain_journal
from farstory.logs import check_logs, last_tick
from farstory.offsets import offsets
from tests.helping import NO_NUMBERS, ODD, Case, are_logs, lists
from tests.plain import all_stories, bent, flights, frozen, random_flight

SETUP = (((1, 4, 2),), (2, 5), (1, 2))
FRAME = (0, 3, 0, ((0, 0, None),), ())
OTHER = (1, 5, 0, ((1, 0, 4),), ((0, (0, 1, -7, -7, -7)),))
NOTE = (1, ("note", 7))
SENT = tuple(("sent", tick, NOTE) for tick in (90, 91, 92))
HEARD = tuple(("heard", tick, FRAME) for tick in (105, 106, 107))
# Values that are no row of a log of this setup, or cannot stand behind SENT and HEARD.
NO_ROWS = ODD + (
    ("heard", 107), ("heard", 106, FRAME), ("heard", True, FRAME), ("heard", -1, FRAME), ("heard", 10 ** 9, FRAME),
    ("heard", 108, FRAME[:4]), ("hears", 108, FRAME), ("sent", 108, (2, ("note", 7))), ("sent", 108, (1, ("note", 8))),
    ("sent", 108, (0, ("note", 7))), ("sent", 108, ("note", 7)), ("heard", 108, NOTE), ("sent", 108, FRAME),
    ("heard", 108, FRAME, 0))


def full_book(house=0):
    book = new_book(SETUP, house)
    for row in (SENT if house == 0 else ()) + HEARD:
        book.tell(row)
    return book


def state(book):
    journal = book.journal
    return (book.setup, book.house, book.rows, journal.pages, journal.page, journal.term, journal.told, journal.kept,
            journal.loose())


def head(term, many):
    return write_row(("page", term, many))


def kept_ticks(ticks, reach):
    """The ticks of copies that are kept, word by word as point 67 has it."""
    ticks = sorted(set(ticks))
    kept = [ticks[0]]
    for at in range(1, len(ticks) - 1):
        if not ticks[at + 1] - kept[-1] <= reach:
            kept.append(ticks[at])
    return sorted(set(kept + [ticks[-1]]))


def plain_fold(setup, log):
    """The rows that are kept, word by word as point 67 has it."""
    keep = [False] * len(log)
    heard = [at for at, row in enumerate(log) if row[0] == "heard"]
    for at in heard:
        if log[at][2] not in [log[other][2] for other in heard if other < at]:
            keep[at] = True
    ways = [log[at][1] - log[at][2][1] for at in heard]
    for way in (min(ways), max(ways)) if ways else ():
        keep[heard[ways.index(way)]] = True
    for number in {row[2][0] for row in log if row[0] == "sent"}:
        places = [at for at, row in enumerate(log) if row[0] == "sent" and row[2][0] == number]
        for tick in kept_ticks([log[at][1] for at in places], 1 + setup[2][1] - setup[2][0]):
            keep[[at for at in places if log[at][1] == tick][0]] = True
    if log and not any(keep[at] and log[at][1] == log[-1][1] for at in range(len(log))):
        keep[-1] = True
    return tuple(row for at, row in enumerate(log) if keep[at])


def coming(setup, ticks):
    return {tick + way for tick in ticks for way in range(setup[2][0], setup[2][1] + 1)}


def busy_logs(chance):
    """(setup, logs) of a flight whose house 0 sends many copies, some close together, some far apart."""
    setup, flight = random_flight(chance, chance.randrange(4, 10), 1, 4)
    logs = [list(log) for log in flight.logs]
    for tick in sorted(chance.choices(range(15), k=chance.randrange(9))):
        ahead = [row for row in logs[0] if row[1] <= tick]
        sent = [row for row in ahead if row[0] == "sent"]
        letter = sent[-1][2] if sent else (1, ("note", 1))
        logs[0].insert(len(ahead), ("sent", tick, letter))
    logs = frozen(logs)
    return setup, logs if are_logs(setup, logs) else frozen(flight.logs)


def bent_or_not(chance):
    """(setup, logs): one time in four bent, so that they may quarrel."""
    setup, logs = busy_logs(chance)
    other = bent(chance, logs) if chance.randrange(4) == 0 else logs
    return setup, other if are_logs(setup, other) else logs


def stories_of(setup, logs, now):
    """All stories at a tick, values left out."""
    return [(offset, tuple(None if at is None else at for at in takings), tuple(map(tuple, fitting)))
            for offset, takings, fitting in all_stories(setup, logs, now, range(-3, 8))]


class New(Case):
    def test_wrong(self):
        self.fails(BadSetup, -1, new_book, None, None)
        for value in NO_NUMBERS + (8, 100):
            self.refuses(value, new_book, SETUP, value)

    def test_new(self):
        for house in (0, 7):
            book = new_book(lists(SETUP), house)
            first = ("log", SETUP, house, ())
            octets = head(0, 0) + write_row(first)
            self.same(state(book), (SETUP, house, (), (octets, ()), 0, 0, (first,), len(octets), 0))
            self.same(book.both_pages(), (octets, ()))
            self.assertIs(book.journal.__class__, Journal)
            self.same(state(open_book(book.both_pages())), state(book))


class Telling(Case):
    def test_tell(self):
        book = new_book(SETUP, 0)
        octets = book.both_pages()[0]
        for at, row in enumerate(SENT + HEARD):
            self.same(book.tell(lists(row)), at + 1)
            octets += write_row(row)
            self.same(book.both_pages(), (octets, ()))
            self.same((book.rows, book.journal.loose()), ((SENT + HEARD)[:at + 1], 0))
        self.same(plain_book(book.both_pages()), (SETUP, 0, SENT + HEARD))

    def test_what_cannot_stand(self):
        book = full_book()
        kept = state(book)
        for value in NO_ROWS:
            self.fails(BadLog, (0, 6), book.tell, value)
            self.fails(BadLog, (0, 6), book.tell_cut, value, None)
        self.same(state(book), kept)
        book = full_book(3)
        kept = state(book)
        for value in NO_ROWS + (("sent", 108, NOTE),):
            self.fails(BadLog, (3, 3), book.tell, value)
        self.same(state(book), kept)
        self.fails(BadLog, (5, 0), new_book(SETUP, 5).tell, SENT[0])

    def test_tell_cut(self):
        row = ("heard", 108, OTHER)
        many = len(write_row(row))
        for left in range(many + 1):
            book = full_book()
            kept = state(book)
            for value in NO_NUMBERS + (many + 1,):
                self.refuses(value, book.tell_cut, row, value)
            self.same(state(book), kept)
            self.same(book.tell_cut(lists(row), left), left == many)
            if left < many:
                self.same(state(book), kept)
            else:
                self.same(book.rows, SENT + HEARD + (row,))
                self.same(book.both_pages(), (kept[3][0] + write_row(row), ()))
            self.same(state(open_book(book.both_pages())), state(book))
            # Whatever was cut, it goes on.
            self.same(book.tell(("heard", 109, OTHER)), 7 + (left == many))


class Folding(Case):
    def test_fold(self):
        book = full_book()
        rows = folded(SETUP, [SENT + HEARD])[0]
        self.same([row[1] for row in rows], [90, 92, 105, 107])
        page = head(1, 1) + write_row(("log", SETUP, 0, rows))
        self.same(book.fold_length(), len(page))
        ahead = book.both_pages()[0]
        self.assertIsNone(book.fold())
        self.same(state(book), (SETUP, 0, rows, (ahead, page), 1, 1, (("log", SETUP, 0, rows),), len(page), 0))
        self.same(book.tell(("heard", 110, OTHER)), 5)
        book.fold()
        self.same((book.journal.term, book.journal.page, book.both_pages()[1]), (2, 0, page + write_row(("heard", 110, OTHER))))
        self.same(plain_book(book.both_pages()), (SETUP, 0, book.rows))
        self.same(state(open_book(book.both_pages())), state(book))

    def test_of_another_house(self):
        book = full_book(4)
        book.fold()
        self.same(plain_book(book.both_pages()), (SETUP, 4, (HEARD[0], HEARD[2])))

    def test_fold_cut(self):
        for twice in (False, True):
            for left in range(full_book().fold_length() + 1):
                book = full_book()
                many = book.fold_length()
                kept = state(book)
                for value in NO_NUMBERS + (many + 1,):
                    self.refuses(value, book.fold_cut, value)
                self.same(state(book), kept)
                self.same(book.fold_cut(left), left == many)
                whole = head(1, 1) + write_row(("log", SETUP, 0, plain_fold(SETUP, SENT + HEARD)))
                self.same(book.both_pages(), (kept[3][0], whole[:left]))
                if left < many:
                    self.same((book.rows, book.journal.page, book.journal.term), (SENT + HEARD, 0, 0))
                else:
                    self.same((book.rows, book.journal.page, book.journal.term), (plain_fold(SETUP, SENT + HEARD), 1, 1))
                again = open_book(book.both_pages())
                self.same(state(again), state(book))
                for one in (book, again) if twice else ():
                    one.tell(("heard", 111, OTHER))
                    one.fold()
                    self.same(plain_book(one.both_pages()), (SETUP, 0, one.rows))
                    self.same(one.rows, plain_fold(SETUP, SENT + HEARD + (("heard", 111, OTHER),)))


class Reading(Case):
    def pages(self, *rows):
        octets = head(3, 0)
        for row in rows:
            octets += write_row(row)
        return octets, ()

    def test_errors_of_journals(self):
        for function in (plain_book, open_book):
            for value in ODD + ((), ((),)):
                if not isinstance(value, (list, tuple)) or len(value) != 2:
                    self.refuses(value, function, value)
            self.fails(BadOctets, -1, function, (None, None))
            self.fails(Broken, 1, function, ((4, 0), None))
            self.fails(Broken, 0, function, (write_row(("a",)), None))
            self.fails(Broken, -1, function, ((), ()))

    def test_first_rows(self):
        first = ("log", SETUP, 0, SENT)
        bad = (
            ("logs", SETUP, 0, SENT), ("log", SETUP, 0), ("log", SETUP, 0, SENT, 0), ("log", None, 0, SENT),
            ("log", SETUP[:2], 0, SENT), ("log", SETUP, 8, SENT), ("log", SETUP, -1, SENT), ("log", SETUP, None, SENT),
            ("log", SETUP, 0, None), ("log", SETUP, 0, "sent"), ("log", SETUP, 0, (None,)), ("log", SETUP, 1, SENT),
            ("log", SETUP, 0, SENT[::-1]), ("log", SETUP, 0, HEARD + SENT), ("log",),
            ("log", SETUP, 8, HEARD), ("log", SETUP, None, HEARD), ("log", SETUP, -1, HEARD), ("log", SETUP, 0, "heard"), ("a", 1), SENT[0])
        for function in (plain_book, open_book):
            self.fails(Broken, 0, function, self.pages())
            for row in bad:
                self.fails(Broken, 0, function, self.pages(row))
                self.fails(Broken, 0, function, self.pages(row, first))
        self.same(plain_book(self.pages(first)), (SETUP, 0, SENT))
        self.same(plain_book(lists(self.pages(first, *HEARD))), (SETUP, 0, SENT + HEARD))
        # A log of another house is heard alone.
        self.same(plain_book(self.pages(("log", SETUP, 7, HEARD[:1]), *HEARD[1:])), (SETUP, 7, HEARD))

    def test_later_rows(self):
        first = ("log", SETUP, 0, SENT)
        for function in (plain_book, open_book):
            self.fails(Broken, 1, function, self.pages(first, first))
            self.fails(Broken, 1, function, self.pages(first, SENT[1]))
            self.fails(Broken, 2, function, self.pages(first, SENT[2], ("a", None)))
            self.fails(Broken, 3, function, self.pages(first, *HEARD[:2], ("heard", 105, FRAME), HEARD[2]))
            self.fails(Broken, 1, function, self.pages(("log", SETUP, 2, ()), SENT[0]))
            self.fails(Broken, 2, function, self.pages(first, HEARD[0], ("sent", 106, (2, ("note", 1)))))

    def test_opened_books_go_on(self):
        book = open_book(self.pages(("log", SETUP, 0, SENT), *HEARD)[0:1] + ((4, 1, 2),))
        self.same((book.setup, book.house, book.rows), (SETUP, 0, SENT + HEARD))
        self.fails(BadLog, (0, 6), book.tell, SENT[0])
        self.same(book.tell(("heard", 107, OTHER)), 7)
        book.fold()
        self.same(book.journal.term, 4)
        self.same(plain_book(book.both_pages())[2], book.rows)

    def test_what_hangs_is_gone(self):
        octets = self.pages(("log", SETUP, 0, SENT), HEARD[0])[0]
        cut = octets + write_row(HEARD[1])[:-1]
        self.same(plain_book((cut, ())), (SETUP, 0, SENT + HEARD[:1]))
        self.same(open_book((cut, ())).both_pages(), (octets, ()))


class Folds(Case):
    def test_wrong(self):
        self.fails(BadSetup, -1, folded, None, None)
        for value in (None, (), [], "a", (0,), ((),) * 9, {}, (((),), None)):
            self.fails(BadLog, -1, folded, SETUP, value)
        self.fails(BadLog, (0, 0), folded, SETUP, [[[]]])
        self.fails(BadLog, (1, 0), folded, SETUP, ((), SENT))
        self.fails(BadLog, (0, 3), folded, SETUP, (SENT + SENT, SENT))

    def test_edges(self):
        self.same(folded(SETUP, ((), ())), ((), ()))
        self.same(folded(lists(SETUP), lists([SENT + HEARD])), ((SENT[0], SENT[2], HEARD[0], HEARD[2]),))
        # Equal hearings are one; each frame has its first one.
        one, other = ("heard", 105, FRAME), ("heard", 107, OTHER)
        self.same(folded(SETUP, ((one, one, one),)), ((one,),))
        self.same(folded(SETUP, ((one, other, other),)), ((one, other),))
        # The least and the greatest way, of whichever frames, the first row of each.
        rows = tuple(("heard", tick, frame) for tick, frame in (
            (100, FRAME), (101, OTHER), (102, OTHER), (102, FRAME), (103, FRAME), (103, OTHER), (105, OTHER), (105, OTHER)))
        self.same(folded(SETUP, (rows,)), ((rows[0], rows[1], rows[4], rows[6]),))
        # Unlike frames of one number are two.
        unlike = ("heard", 105, FRAME[:1] + (4,) + FRAME[2:])
        self.same(folded(SETUP, ((one, unlike, ("heard", 105, FRAME)),)), ((one, unlike),))

    def test_the_last_row(self):
        # Neither first, nor on the way for the least or most time: just the tick of the last row.
        frames = [(number, stamp, 0, ((0, 0, None),), ()) for number, stamp in ((0, 0), (1, 1), (2, 2))]
        rows = (("heard", 10, frames[0]), ("heard", 10, frames[2]), ("heard", 10, frames[1]), ("heard", 11, frames[1]))
        self.same(folded(SETUP, (rows,)), (rows,))
        self.same(folded(SETUP, (rows + rows[3:],)), (rows[:3] + rows[3:],))
        rows = rows[:3] + (("heard", 11, frames[1]), ("heard", 11, frames[1]))
        self.same(folded(SETUP, (rows,)), (rows[:3] + rows[4:],))

    def test_copies_close_and_far(self):
        # up is (1, 2): ways of copies that are 2 ticks apart stand side by side.
        for ticks, kept in (((1, 2, 3), (1, 3)), ((1, 3, 5), (1, 3, 5)), ((1, 2, 3, 4), (1, 3, 4)), ((1, 2, 4), (1, 2, 4)),
                            ((1, 1, 2, 2, 3, 3), (1, 3)), ((1, 9), (1, 9)), ((4,), (4,)), ((1, 2, 3, 4, 5, 9, 10, 11), (1, 3, 5, 9, 11))):
            log = tuple(("sent", tick, NOTE) for tick in ticks)
            self.same([row[1] for row in folded(SETUP, (log,))[0]], list(kept))
        # Each letter's copies by themselves.
        told = ("heard", 5, (0, 2, 1, ((0, 0, None),), ()))
        log = tuple(("sent", tick, NOTE) for tick in (1, 2, 3)) + (told,) + tuple(("sent", tick, (2, NOTE[1])) for tick in (5, 6, 7))
        self.same([row[1] for row in folded(SETUP, (log,))[0]], [1, 3, 5, 5, 7])

    def test_beside_plain_folds(self):
        chance, shorter = random.Random(67), 0
        for _ in range(500):
            setup, logs = bent_or_not(chance)
            found = folded(setup, logs)
            self.same(found, tuple(plain_fold(setup, log) for log in logs))
            self.same(check_logs(setup, found), found)
            self.same(folded(setup, found), found)
            self.same(last_tick(found), last_tick(logs))
            shorter += found != logs
        self.assertGreater(shorter, 200)

    def test_no_fewer_copies(self):
        chance = random.Random(68)
        for _ in range(150):
            least = chance.randrange(3)
            setup = (((1, 2, 2),), (0, 1), (least, least + chance.randrange(4)))
            ticks = sorted(chance.choices(range(14), k=chance.randrange(1, 8)))
            found = [row[1] for row in folded(setup, (tuple(("sent", tick, NOTE) for tick in ticks),))[0]]
            wanted = coming(setup, ticks)
            self.assertEqual(coming(setup, found), wanted)
            for many in range(len(found)):
                for fewer in itertools.combinations(sorted(set(ticks)), many):
                    # The first and the last one are always needed.
                    self.assertNotEqual(coming(setup, fewer), wanted)

    def test_the_same_stories(self):
        chance, shorter = random.Random(69), 0
        for _ in range(150):
            setup, logs = bent_or_not(chance)
            found = folded(setup, logs)
            shorter += found != logs
            mixed = tuple(chance.choice(pair) for pair in zip(logs, found))
            now = last_tick(logs) + chance.randrange(2)
            if now > 13:
                continue
            wanted = stories_of(setup, logs, now)
            self.assertEqual(stories_of(setup, found, now), wanted)
            self.assertEqual(stories_of(setup, mixed, now), wanted)
            house = chance.randrange(len(logs))
            alone = tuple(log if at == house else () for at, log in enumerate(logs))
            self.assertEqual(stories_of(setup, folded(setup, alone), now), stories_of(setup, alone, now))
        self.assertGreater(shorter, 60)

    def test_the_same_is_told(self):
        for setup, logs, now, _ in flights(1, 60):
            found = folded(setup, logs)
            self.same(offsets(setup, found), offsets(setup, logs))
            self.same(letter_word(setup, found, now), letter_word(setup, logs, now))
            self.same(view(setup, found, now), view(setup, logs, now))


class Led(Case):
    def test_books_beside_plain_lists(self):
        chance, cuts = random.Random(66), 0
        for _ in range(40):
            setup, logs = busy_logs(chance)
            house = chance.randrange(len(logs))
            book, rows = new_book(setup, house), ()
            for row in logs[house]:
                word = chance.randrange(6)
                octets = len(write_row(row))
                if not are_logs(setup, tuple(rows + (row,) if at == house else () for at in range(len(logs)))):
                    # A row ahead of it was cut, without which it cannot stand.
                    self.fails(BadLog, (house, len(rows)), book.tell, row)
                elif word < 3:
                    rows += (row,)
                    self.same(book.tell(row), len(rows))
                elif word < 4:
                    left = chance.choice((0, octets - 1, octets, chance.randrange(octets + 1)))
                    rows += (row,) * (left == octets)
                    cuts += left < octets
                    self.same(book.tell_cut(row, left), left == octets)
                elif word < 5:
                    book.fold()
                    rows = plain_fold(setup, rows)
                else:
                    many = book.fold_length()
                    left = chance.choice((many, chance.randrange(many + 1)))
                    rows = plain_fold(setup, rows) if left == many else rows
                    self.same(book.fold_cut(left), left == many)
                self.same(book.rows, rows)
                self.same(plain_book(book.both_pages()), (setup, house, rows))
                self.same(plain_journal(book.both_pages())[0], book.journal.page)
                if chance.randrange(4) == 0:
                    book = open_book(lists(book.both_pages()))
        self.assertGreater(cuts, 10)


class Limits(Case):
    def test_two_hundred_rows(self):
        start = time.time()
        book = new_book(SETUP, 0)
        frames = [(10 ** 9 - number, 10 ** 9 - 500 + number, 0, ((0, 0, None),), ()) for number in range(50)]
        for at in range(200):
            book.tell(("heard", 10 ** 9 - 300 + at, frames[at % 50]) if at % 2 else ("sent", 10 ** 9 - 300 + at, NOTE))
        self.same(len(book.rows), 200)
        self.same(open_book(book.both_pages()).rows, book.rows)
        many = book.fold_length()
        self.same(book.fold_cut(many - 1), False)
        self.same(book.fold_cut(many), True)
        self.assertLess(len(book.rows), 200)
        self.same(open_journal(book.both_pages()).told, book.journal.told)
        self.assertLess(time.time() - start, 20)

    def test_rows_without_a_form(self):
        # A number of a frame that is beyond all forms has no place in a journal.
        book = full_book()
        kept = state(book)
        self.fails(BadLog, (0, 6), book.tell, ("heard", 200, (256 ** 200,) + FRAME[1:]))
        self.same(state(book), kept)
        self.same(write_value(256 ** 200 - 1)[1], 200)
