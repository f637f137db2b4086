"""Journals: rows kept on two pages of octets, of which one always counts, wherever the writing is cut."""

from farstory.errors import Broken, Refused
from farstory.forms import read_row, read_rows, write_row
from farstory.words import is_number, is_of_parts, is_sequence, need_octets


def head_of(term, many):
    """The form of the head of a page."""
    return write_row(("page", term, many))


def is_head(row):
    return len(row) == 3 and row[0] == "page" and is_number(row[1]) and is_number(row[2])


def page_rows(octets):
    """(the whole rows of a page, its head the first one, the place behind them)."""
    rows, behind = read_rows(octets)
    if rows and not is_head(rows[0]):
        raise Broken(0)
    return rows, behind


def does_count(rows):
    """Whether a page on which these rows stand whole counts."""
    return len(rows) > 0 and len(rows) - 1 >= rows[0][2]


def plain_journal(pages):
    """(page, term, rows behind the head, the place behind them) of the page that counts, of the greater term."""
    if not is_of_parts(pages, 2):
        raise Refused(pages)
    found = [page_rows(octets) for octets in pages]
    counting = [page for page, told in enumerate(found) if does_count(told[0])]
    if not counting:
        raise Broken(-1)
    # Of like terms the first one is taken.
    page = max(counting, key=lambda one: (found[one][0][0][1], -one))
    rows, behind = found[page]
    return page, rows[0][1], rows[1:], behind


class Journal:
    """Rows on two pages; what is not kept can be cut."""

    def __init__(self):
        self.pages = (head_of(0, 0), ())
        self.page = 0
        self.term = 0
        self.told = ()
        self.kept = len(self.pages[0])

    def lay(self, row):
        """Lays a row behind the others, not kept; how many rows the page has now behind the head."""
        octets = write_row(row)
        self.put(self.pages[self.page] + octets)
        self.told = (*self.told, read_row(octets, 0)[0])
        return len(self.told)

    def keep(self):
        """Keeps all octets."""
        self.kept = len(self.pages[self.page])

    def loose(self):
        """How many octets are not kept."""
        return len(self.pages[self.page]) - self.kept

    def begin(self, rows):
        """Makes the other page anew, for these rows, and writes to it from now on; nothing of it is kept."""
        if not is_sequence(rows):
            raise Refused(rows)
        forms = [write_row(row) for row in rows]
        self.page = 1 - self.page
        self.term += 1
        self.told = tuple([read_row(octets, 0)[0] for octets in forms])
        self.put(head_of(self.term, len(forms)) + tuple([octet for octets in forms for octet in octets]))
        self.kept = 0

    def cut(self, left):
        """Leaves just so many of the octets that are not kept, and reads what counts then."""
        if not is_number(left) or left > self.loose():
            raise Refused(left)
        self.put(self.pages[self.page][:self.kept + left])
        self.read()

    def put(self, octets):
        """Makes the page that is written to these octets."""
        self.pages = (octets, self.pages[1]) if self.page == 0 else (self.pages[0], octets)

    def read(self):
        """Goes on with the page that counts; what hangs behind its rows is gone."""
        self.page, self.term, self.told, behind = plain_journal(self.pages)
        self.put(self.pages[self.page][:behind])
        self.keep()


def open_journal(pages):
    """The journal that goes on with the page that counts."""
    plain_journal(pages)
    journal = Journal()
    journal.pages = tuple([need_octets(octets) for octets in pages])
    journal.read()
    return journal
