"""What is told: all that the logs tell of a tick, and of each row."""

from farstory.aboard import firsts_now, marks_now, need_row, story_of, word_of, words_now
from farstory.counts import heard_present, present
from farstory.errors import Quarrel
from farstory.logs import check_logs
from farstory.stories import need_now
from farstory.stretches import has
from farstory.values import some_values, stretches_at
from farstory.words import is_integer, is_sequence, need_integer


def kind_told(here, kind):
    """(all numbers of rows laid, all (first row aboard, rows laid), the spans told)."""
    marks = marks_now(here, kind)
    return tuple(sorted({laid for _, laid in marks})), marks, here.past.told[kind]


def told_present(setup, logs, now):
    """What the logs tell of a tick; None if no frame was heard."""
    rows = check_logs(setup, logs)
    need_now(rows, now)
    return heard_present(setup, rows, now)


def meaning(setup, logs, now):
    """("quarrel", paper), ("deaf",), or ("told", offsets, word of the letter that is out, by kind what is told)."""
    try:
        here = told_present(setup, logs, now)
    except Quarrel as quarrel:
        return "quarrel", quarrel.paper
    if here is None:
        return ("deaf",)
    kinds = [kind_told(here, kind) for kind in range(len(here.past.kinds))]
    return "told", here.lot, here.letter_word(), tuple(kinds)


def row_values(setup, logs, now, kind, row):
    """The stretches of the values that the row can have been laid with, by the spans told."""
    here = present(setup, logs, now, kind)
    return stretches_at(here.past.told[kind], row)


def row_meaning(setup, logs, now, kind, row):
    """(the words that the row can have, the stretches of the values that it can have been laid with)."""
    here = present(setup, logs, now, kind)
    need_row(row)
    return words_now(here, kind, row), stretches_at(here.past.told[kind], row)


def is_place_word(value):
    """Whether any value is the word of a row that is laid, in its form."""
    if not is_sequence(value) or len(value) == 0 or value[0] not in ("gone", "aboard"):
        return False
    return all([is_integer(part) for part in value[1:]])


def pair_with(here, kind, row, word):
    """A pair by which the row has the word; None if there is none."""
    keep = here.past.kinds[kind][2]
    for (first, laid), pair in firsts_now(here, kind).items():
        if word_of(keep, first, laid, row) == word:
            return pair
    return None


def with_value(here, story, kind, row, value):
    """A story in which the row has a value that fits."""
    values = {}
    for place, had in some_values(here.past.told[kind], row, value):
        values[place] = had
    rows = tuple([(laid[0], values.get(place, 0)) for place, laid in enumerate(story[2][kind])])
    return story[0], story[1], (*story[2][:kind], rows, *story[2][kind + 1:])


def value_story(setup, logs, now, kind, row, word, value):
    """Some story in which the row is laid, has this word, and this value; None if there is none."""
    here = present(setup, logs, now, kind)
    need_row(row)
    need_integer(value)
    if not is_place_word(word) or not has(stretches_at(here.past.told[kind], row), value):
        return None
    pair = pair_with(here, kind, row, tuple(word))
    return None if pair is None else with_value(here, story_of(here, kind, pair), kind, row, value)
