"""Books: a house's log in a journal, and logs folded to what tells the same."""

from farstory.errors import BadLog, BadSetup, Broken, Refused
from farstory.forms import is_row, write_row
from farstory.journals import Journal, head_of, open_journal, plain_journal
from farstory.logs import MOST_HOUSES, check_logs, checked_log, next_row, tightest_places
from farstory.setups import check_setup
from farstory.words import is_number, is_sequence


def first_hearings(log):
    """The places of the first hearing of each frame, as a list."""
    found = {}
    for place, row in enumerate(log):
        if row[0] == "heard":
            found.setdefault(row[2], place)
    return list(found.values())


def copies_in(log):
    """By letter the places of the first row at each tick of its copies, by tick, as a list of dicts."""
    found = {}
    for place, row in enumerate(log):
        if row[0] == "sent":
            found.setdefault(row[2][0], {}).setdefault(row[1], place)
    return list(found.values())


def ticks_enough(ticks, reach):
    """Of ascending ticks the first, the last, and those without which a gap between two is beyond the reach."""
    kept = [ticks[0]]
    for tick, following in zip(ticks[1:], ticks[2:]):
        if following - kept[-1] > reach:
            kept.append(tick)
    return kept + ticks[1:][-1:]


def folded_log(up, log):
    """The rows of a checked log, in their order, that tell the same."""
    least, most = up
    places = first_hearings(log)
    tightest = tightest_places(log)
    if tightest is not None:
        places.extend(list(tightest))
    for copies in copies_in(log):
        places.extend([copies[tick] for tick in ticks_enough(sorted(copies), 1 + most - least)])
    if log and not any([log[place][1] == log[-1][1] for place in places]):
        places.append(len(log) - 1)
    return tuple([log[place] for place in sorted(set(places))])


def folded(setup, logs):
    """The logs with, of each house, just the rows that tell the same."""
    up = check_setup(setup)[2]
    return tuple([folded_log(up, log) for log in check_logs(setup, logs)])


def is_house(value):
    return is_number(value) and value < MOST_HOUSES


def first_log(row):
    """(setup, house, log) that the first row of a book tells; None if it is none."""
    if len(row) != 4 or row[0] != "log" or not is_house(row[2]) or not is_sequence(row[3]):
        return None
    try:
        setup = check_setup(row[1])
        return setup, row[2], checked_log(setup, row[2], row[3])
    except (BadSetup, BadLog):
        return None


def plain_book(pages):
    """(setup, house, log) of the book on two pages."""
    told = plain_journal(pages)[2]
    first = first_log(told[0]) if told else None
    if first is None:
        raise Broken(0)
    setup, house, log = first
    rows = list(log)
    for at, value in enumerate(told[1:], start=1):
        row = next_row(setup, house, rows, value)
        if row is None:
            raise Broken(at)
        rows.append(row)
    return setup, house, tuple(rows)


class Book:
    """The log of a house, kept in a journal."""

    def __init__(self, journal, setup, house, rows):
        self.journal = journal
        self.setup = setup
        self.house = house
        self.rows = rows

    def both_pages(self):
        """The two pages of the journal."""
        return self.journal.pages

    def tell(self, row):
        """Lays a row and keeps it; how many rows the log has."""
        told = self.checked(row)
        self.journal.lay(told)
        self.journal.keep()
        self.rows = (*self.rows, told)
        return len(self.rows)

    def tell_cut(self, row, left):
        """Lays a row, and is cut with so many of its octets left; whether it stands."""
        told = self.checked(row)
        many = len(write_row(told))
        if not is_number(left) or left > many:
            raise Refused(left)
        self.journal.lay(told)
        self.journal.cut(left)
        if left < many:
            return False
        self.rows = (*self.rows, told)
        return True

    def fold_length(self):
        """How many octets the other page would have, the log folded."""
        return len(head_of(self.journal.term + 1, 1)) + len(write_row(self.first_row()))

    def fold(self):
        """Goes on with the other page, the log folded, and keeps it."""
        first = self.first_row()
        self.journal.begin([first])
        self.journal.keep()
        self.rows = first[3]

    def fold_cut(self, left):
        """Begins the other page, the log folded, and is cut with so many octets of it written; whether it counts."""
        many = self.fold_length()
        if not is_number(left) or left > many:
            raise Refused(left)
        first = self.first_row()
        self.journal.begin([first])
        self.journal.cut(left)
        if left < many:
            return False
        self.rows = first[3]
        return True

    def first_row(self):
        """The first row of a journal that tells the log folded."""
        return "log", self.setup, self.house, folded_log(self.setup[2], self.rows)

    def checked(self, row):
        """The row as tuples, if it can stand behind the log and has a form."""
        told = next_row(self.setup, self.house, self.rows, row)
        if not is_row(told):
            raise BadLog((self.house, len(self.rows)))
        return told


def new_book(setup, house):
    """The book of a house that has no rows yet."""
    checked = check_setup(setup)
    if not is_house(house):
        raise Refused(house)
    journal = Journal()
    journal.lay(("log", checked, house, ()))
    journal.keep()
    return Book(journal, checked, house, ())


def open_book(pages):
    """The book on two pages."""
    setup, house, rows = plain_book(pages)
    return Book(open_journal(pages), setup, house, rows)
