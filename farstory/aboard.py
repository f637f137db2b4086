"""Aboard: which spans are there by now, and where a row is."""

from farstory.chains import least_of, stretches_of
from farstory.counts import present
from farstory.errors import NoRow, Refused
from farstory.logs import check_logs, joined_rows
from farstory.offsets import is_free_of
from farstory.setups import check_setup, need_kind
from farstory.shapes import first_behind, shape, span_at
from farstory.stories import holds, need_now
from farstory.words import is_number


def need_row(row):
    if not is_number(row):
        raise NoRow(row)


def first_now(here, kind, ahead):
    """The first row of a kind aboard, so many being laid ahead of the taking of the letter (None: not taken)."""
    first = here.past.last[3][kind][1]
    if ahead is None or not is_free_of(here.letter[1], kind):
        return first
    return first_behind(here.past.kinds[kind][2], first, ahead, here.letter[1][2])


def marks_now(here, kind):
    """Ascending (first row aboard, rows laid) of all that some story has."""
    told = here.past.last[3][kind][0]
    found = {}
    for count, stretches in here.ranges(kind).items():
        first = first_now(here, kind, None if count < 0 else told + count)
        for low, high in stretches:
            for laid in range(told + low, told + high + 1):
                found[first, laid] = True
    return tuple(sorted(found))


def firsts_now(here, kind):
    """By (first row aboard, rows laid) that some story has, a pair with which it comes about."""
    found = {}
    for pair in here.pairs(kind):
        found.setdefault((first_now(here, kind, pair[0]), pair[1]), pair)
    return found


def stamps_behind(here, kind, pair):
    """The stamps of the rows of a kind behind the last frame, of some story of the pair."""
    ahead, laid, offset, taking = pair
    gap, pause, _ = here.past.kinds[kind]
    begin, low = here.steps(kind)
    told = here.past.last[3][kind][0]
    now = here.now - offset
    if taking is None:
        windows = [(low, now)] * (laid - told)
    else:
        windows = [(low, taking)] * (ahead - told) + [(taking + 1, now)] * (laid - ahead)
    # One row more: the next one can still come.
    windows.append((now + 1, None))
    return least_of(stretches_of((gap, pause, begin, windows)))[:-1]


def story_of(here, kind, pair):
    """Some story that has the pair of rows ahead and rows laid of the kind."""
    offset, taking = pair[2:]
    behind = []
    for other in range(len(here.past.kinds)):
        if other == kind:
            behind.append(stamps_behind(here, kind, pair))
        else:
            behind.append(here.past.late_rows(other, here.now - offset))
    return here.past.story(offset, taking, behind)


def shapes_at(setup, logs, tick, kind):
    """((laid, shape), some story), by first row aboard, then laid, of all that some story has aboard."""
    here = present(setup, logs, tick, kind)
    keep = here.past.kinds[kind][2]
    found = firsts_now(here, kind)
    return tuple([((laid, shape(keep, first, laid)), story_of(here, kind, found[first, laid]))
                  for first, laid in sorted(found)])


def word_of(keep, first, laid, row):
    """The word of a row, `first` being the first one aboard and so many being laid."""
    if row >= laid:
        return ("later",)
    span = span_at(keep, first, laid, row)
    return ("gone",) if span is None else ("aboard", *span)


def words_now(here, kind, row):
    """Ascending all words of the row that some story has."""
    keep = here.past.kinds[kind][2]
    return tuple(sorted({word_of(keep, first, laid, row) for first, laid in marks_now(here, kind)}))


def row_words(setup, logs, now, kind, row):
    """Ascending, (word, some story that has it) for each word of the row that some story has."""
    here = present(setup, logs, now, kind)
    need_row(row)
    keep = here.past.kinds[kind][2]
    found = {}
    for (first, laid), pair in firsts_now(here, kind).items():
        found.setdefault(word_of(keep, first, laid, row), pair)
    return tuple([(word, story_of(here, kind, found[word])) for word in sorted(found)])


def row_word(setup, logs, now, kind, row):
    """("sure", word) if the row has one word in all stories, else ("open", the first and the last of its words)."""
    words = row_words(setup, logs, now, kind, row)
    if len(words) == 1:
        return "sure", words[0][0]
    return "open", words[0], words[-1]


def first_in(setup, letters, story, kind):
    """The first row of a kind aboard in a story that holds."""
    stamps = [row[0] for row in story[2][kind]]
    first = 0
    for letter, taking in zip(letters, story[1]):
        if taking is not None and is_free_of(letter[1], kind):
            ahead = len([stamp for stamp in stamps if stamp <= taking])
            first = first_behind(setup[0][kind][2], first, ahead, letter[1][2])
    return first


def word_in(setup, logs, now, value, kind, row):
    """The word of a row in a story."""
    checked = check_setup(setup)
    rows = check_logs(checked, logs)
    need_now(rows, now)
    if not holds(checked, rows, now, value):
        raise Refused(value)
    need_kind(checked[0], kind)
    need_row(row)
    frames, _, letters = joined_rows(rows)
    if not frames:
        raise Refused(logs)
    return word_of(checked[0][kind][2], first_in(checked, letters, value, kind), len(value[2][kind]), row)
