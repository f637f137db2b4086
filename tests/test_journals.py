"""Point 65: journals."""

import random
import time

from farstory.errors import BadOctets, BadRow, Broken
from farstory.forms import read_rows, write_row, write_value
from farstory.journals import Journal, open_journal, plain_journal
from tests.helping import NO_NUMBERS, NO_SEQUENCES, ODD, Case, lists, nested, tuples

ROWS = (("a",), ("b", 3, (None, -4)), ("", ("x", ())), ("log", 300))


def head(term, many):
    return write_row(("page", term, many))


def page_of(term, many, rows, hanging=()):
    octets = head(term, many)
    for row in rows:
        octets += write_row(row)
    return octets + tuple(hanging)


def state(journal):
    return journal.pages, journal.page, journal.term, journal.told, journal.kept


class Plain:
    """A journal by plain lists: by page (term, many, rows, octets not whole), or None; of octets how many are kept."""

    def __init__(self):
        self.pages = [[0, 0, []], None]
        self.page, self.kept = 0, len(head(0, 0))

    def octets(self, page):
        told = self.pages[page]
        if told is None:
            return ()
        return page_of(*told) if isinstance(told, list) else told

    def lay(self, row):
        self.pages[self.page][2].append(row)

    def keep(self):
        self.kept = len(self.octets(self.page))

    def loose(self):
        return len(self.octets(self.page)) - self.kept

    def begin(self, rows):
        term = self.pages[self.page][0]
        self.page = 1 - self.page
        self.pages[self.page] = [term + 1, len(rows), list(rows)]
        self.kept = 0

    def cut(self, left):
        octets = self.octets(self.page)[:self.kept + left]
        term, many, rows = self.pages[self.page]
        while page_of(term, many, rows) != octets[:len(page_of(term, many, rows))] and rows:
            rows.pop()
        if len(octets) >= len(page_of(term, many, rows)) and len(rows) >= many:
            self.keep()
            return
        # The page does not count: what is left of it stays, and the other one is gone on with.
        self.pages[self.page] = octets
        self.page = 1 - self.page
        self.keep()


class New(Case):
    def test_new(self):
        journal = Journal()
        self.same(state(journal), ((head(0, 0), ()), 0, 0, (), len(head(0, 0))))
        self.same(journal.loose(), 0)
        self.same(plain_journal(journal.pages), (0, 0, (), len(head(0, 0))))
        self.same(state(open_journal(journal.pages)), state(journal))

    def test_lay_and_keep(self):
        journal = Journal()
        for at, row in enumerate(ROWS):
            self.same(journal.lay(lists(row)), at + 1)
            self.same(journal.told, ROWS[:at + 1])
        self.same(journal.pages, (page_of(0, 0, ROWS), ()))
        self.same(journal.kept, len(head(0, 0)))
        self.same(journal.loose(), len(page_of(0, 0, ROWS)) - len(head(0, 0)))
        self.assertIsNone(journal.keep())
        self.same((journal.loose(), journal.kept), (0, len(journal.pages[0])))

    def test_begin(self):
        journal = Journal()
        journal.lay(ROWS[0])
        ahead = journal.pages[0]
        self.assertIsNone(journal.begin(lists(ROWS[1:])))
        self.same(state(journal), ((ahead, page_of(1, 3, ROWS[1:])), 1, 1, ROWS[1:], 0))
        self.same(journal.loose(), len(journal.pages[1]))
        self.same(journal.lay(ROWS[0]), 4)
        # All is kept; then the first page is made anew.
        journal.begin(())
        self.same(state(journal), ((page_of(2, 0, ()), page_of(1, 3, ROWS[1:] + ROWS[:1])), 0, 2, (), 0))
        # What was begun anew is gone; what is on the other page was kept.
        journal.cut(0)
        self.same(state(journal), (((), page_of(1, 3, ROWS[1:] + ROWS[:1])), 1, 1, ROWS[1:] + ROWS[:1],
                                   len(page_of(1, 3, ROWS[1:] + ROWS[:1]))))


class Wrong(Case):
    def test_rows(self):
        journal = Journal()
        journal.lay(ROWS[0])
        kept = state(journal)
        for value, at in ((None, -1), ((), -1), ("a", -1), ((1,), 0), (("a", True), 1), (("a", 1, 1.5), 2),
                          (("A",), 0), (("a", nested(40)), 1), (["a"] * 4096, -1), ((None, None), 0)):
            self.fails(BadRow, at, journal.lay, value)
            self.fails(BadRow, at, journal.begin, (value,))
            self.fails(BadRow, at, journal.begin, [("a",), value, None])
        self.same(state(journal), kept)

    def test_begin(self):
        journal = Journal()
        kept = state(journal)
        for value in NO_SEQUENCES:
            self.refuses(value, journal.begin, value)
        self.same(state(journal), kept)

    def test_cut(self):
        journal = Journal()
        many = len(write_row(ROWS[1]))
        journal.lay(ROWS[1])
        kept = state(journal)
        for value in NO_NUMBERS + (many + 1, 10 ** 9):
            self.refuses(value, journal.cut, value)
        self.same(state(journal), kept)
        journal.keep()
        self.refuses(1, journal.cut, 1)
        self.assertIsNone(journal.cut(0))

    def test_pages(self):
        good, empty = head(3, 0), ()
        for function in (plain_journal, open_journal):
            for value in ODD + ((), (good,), (good, empty, empty), [], "ab"):
                if not isinstance(value, (list, tuple)) or len(value) != 2:
                    self.refuses(value, function, value)
            self.fails(BadOctets, -1, function, (None, None))
            self.fails(BadOctets, 2, function, ((4, 1, 256), None))
            self.fails(BadOctets, 0, function, (good, (True,)))
            # Page by page: the first one is looked at whole ahead of the other.
            self.fails(Broken, 1, function, ((4, 0), None))
            self.fails(Broken, 1, function, (good, (4, 0)))
            self.fails(Broken, len(good), function, (good + (0,), None))
            self.fails(Broken, 0, function, (write_row(("a",)), None))
            self.fails(Broken, 0, function, (write_value(3), None))
            for row in (("page",), ("page", 1), ("page", 1, 2, 3), ("pages", 1, 2), ("page", -1, 2), ("page", 1, None),
                        ("page", 1, "a"), ("", 1, 2)):
                self.fails(Broken, 0, function, (good, write_row(row)))
                self.fails(Broken, 0, function, (write_row(row) + good, None))
            for pages in ((empty, empty), (good[:-1], empty), (head(3, 1), empty), (empty, good[:1]),
                          (page_of(3, 2, ROWS[:1], write_row(ROWS[1])[:-1]), head(4, 1)), (write_row(("a",))[:-1], empty)):
                self.fails(Broken, -1, function, pages)
                self.fails(Broken, -1, function, lists(pages[::-1]))


class Reading(Case):
    def test_which_page(self):
        one, other = page_of(4, 1, ROWS[:2]), page_of(4, 0, ROWS[2:], (4, 1))
        self.same(plain_journal((one, other)), (0, 4, ROWS[:2], len(one)))
        self.same(plain_journal([list(other), list(one)]), (0, 4, ROWS[2:], len(other) - 2))
        later = page_of(5, 1, ROWS[:1])
        for pages, page in (((one, later), 1), ((later, one), 0)):
            self.same(plain_journal(pages), (page, 5, ROWS[:1], len(later)))
        # A page that does not count, whatever its term.
        short = page_of(9, 2, ROWS[:1], write_row(ROWS[1])[:-1])
        for pages, page in (((one, short), 0), ((short, one), 1), ((one, ()), 0), (((), one), 1), ((one, head(9, 0)[:-1]), 0)):
            self.same(plain_journal(pages), (page, 4, ROWS[:2], len(one)))
        # More rows than the head tells of count as well.
        self.same(plain_journal((page_of(0, 0, ROWS), ()))[2], ROWS)
        self.same(plain_journal((page_of(10 ** 9, 4, ROWS), ()))[:3], (0, 10 ** 9, ROWS))

    def test_opened(self):
        one, other = page_of(4, 1, ROWS[:2], (4, 1)), page_of(3, 0, ROWS[2:], (4, 1))
        journal = open_journal([list(one), list(other)])
        self.same(state(journal), ((one[:-2], other), 0, 4, ROWS[:2], len(one) - 2))
        self.same(journal.lay(ROWS[0]), 3)
        self.same(journal.pages, (page_of(4, 1, ROWS[:2] + ROWS[:1]), other))
        journal.begin(ROWS[:1])
        self.same(journal.pages[1], page_of(5, 1, ROWS[:1]))
        # What is passed stays, and changes of it have no effect.
        pages = [list(one), list(other)]
        journal = open_journal(pages)
        journal.lay(ROWS[0])
        self.same(pages, [list(one), list(other)])
        pages[0].clear()
        self.same(journal.pages[0], page_of(4, 1, ROWS[:2] + ROWS[:1]))

    def test_cut_at_every_octet(self):
        octets = page_of(7, 2, ROWS)
        ends = [len(page_of(7, 2, ROWS[:many])) for many in range(5)]
        for many in range(len(octets) + 1):
            pages = (octets[:many], head(6, 0))
            whole = len([end for end in ends[1:] if end <= many])
            if whole >= 2:
                self.same(plain_journal(pages), (0, 7, ROWS[:whole], ends[whole]))
                self.same(open_journal(pages).pages, (octets[:ends[whole]], head(6, 0)))
            else:
                self.same(plain_journal(pages), (1, 6, (), len(head(6, 0))))
                self.same(open_journal(pages).pages, pages)


class Led(Case):
    def thing(self, chance, nest):
        word = chance.randrange(5 if nest else 3)
        if word == 0:
            return chance.choice((None, 0, -1, 300, -70000))
        if word < 3:
            return "".join(chance.choice("ab-_ 9") for _ in range(chance.randrange(4)))
        return tuple(self.thing(chance, nest - 1) for _ in range(chance.randrange(4)))

    def row(self, chance):
        return ("r", *[self.thing(chance, 2) for _ in range(chance.randrange(3))])

    def beside(self, journal, plain):
        told = plain.pages[plain.page]
        self.same(journal.pages, (plain.octets(0), plain.octets(1)))
        self.same((journal.page, journal.term, journal.told, journal.kept),
                  (plain.page, told[0], tuple(told[2]), plain.kept))
        self.same(journal.loose(), plain.loose())

    def test_by_many_deeds(self):
        chance, cuts = random.Random(65), 0
        for _ in range(60):
            journal, plain = Journal(), Plain()
            for _ in range(30):
                word = chance.randrange(8)
                if word < 4:
                    row = self.row(chance)
                    plain.lay(row)
                    self.same(journal.lay(chance.choice((row, lists(row)))), len(plain.pages[plain.page][2]))
                elif word < 5:
                    plain.keep()
                    journal.keep()
                elif word < 6:
                    rows = [self.row(chance) for _ in range(chance.randrange(3))]
                    plain.begin(rows)
                    journal.begin(rows)
                else:
                    left = chance.randrange(plain.loose() + 1)
                    cuts += plain.loose() > 0
                    plain.cut(left)
                    self.assertIsNone(journal.cut(left))
                self.beside(journal, plain)
                # Whatever is opened anew is the same, all of it kept (but for what is begun and not whole).
                again = open_journal(journal.pages)
                self.same(state(again), state(journal)[:4] + (len(journal.pages[journal.page]),))
        self.assertGreater(cuts, 200)

    def test_cut_at_every_octet(self):
        def led():
            journal, plain = Journal(), Plain()
            for one in (journal, plain):
                one.lay(ROWS[0])
                one.keep()
                one.lay(ROWS[1])
                one.begin(list(ROWS[1:3]))
                one.lay(ROWS[3])
            return journal, plain
        for left in range(led()[0].loose() + 1):
            journal, plain = led()
            journal.cut(left)
            plain.cut(left)
            self.beside(journal, plain)
            self.same(journal.loose(), 0)
            self.same(state(open_journal(journal.pages)), state(journal))
            # It goes on as if nothing had been.
            journal.begin(ROWS)
            plain.begin(list(ROWS))
            self.beside(journal, plain)

    def test_what_is_read_is_tuples(self):
        journal = Journal()
        journal.lay(["a", [1, [2]], []])
        self.same(journal.told, (("a", (1, (2,)), ()),))
        self.same(tuples(state(journal)), state(journal))
        journal.begin([["a", [1]]])
        self.same(journal.told, (("a", (1,)),))


class Limits(Case):
    def test_twenty_thousand_octets(self):
        start = time.time()
        journal = Journal()
        row = ("row", 10 ** 9, ("a" * 20, None), (-5, 6, 7))
        while len(journal.pages[0]) < 19900:
            journal.lay(row)
        self.same(plain_journal(journal.pages)[2], journal.told)
        journal.begin(journal.told)
        journal.cut(journal.loose() - 1)
        self.same((journal.page, read_rows(journal.pages[0])[0][1:]), (0, journal.told))
        self.same(state(open_journal(journal.pages)), state(journal))
        self.assertLess(time.time() - start, 10)
