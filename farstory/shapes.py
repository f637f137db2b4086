"""Shapes: of which rows the spans of a store are, by (first, many)."""

from farstory.errors import Refused
from farstory.words import is_integer, is_number, is_of_parts, is_sequence, need_number


def is_keep(value):
    """Whether any value can tell how many spans of a size stand side by side at most."""
    return is_integer(value) and 2 <= value <= 8


def need_keep(keep):
    if not is_keep(keep):
        raise Refused(keep)


def counts_of(keep, many):
    """How many spans of 1, 2, 4, .. rows there are of so many rows, up to the greatest."""
    need_keep(keep)
    counts = []
    left = many
    while left > keep:
        # The greater spans have an even number of rows: so the rest tells whether one span fewer stands here.
        here = keep - (left - keep) % 2
        counts.append(here)
        left = (left - here) // 2
    if left > 0:
        counts.append(left)
    return tuple(counts)


def shape_from(keep, first, laid):
    """The one shape of rows from the first one on."""
    some = []
    row = first
    sizes = [(1 << place, count) for place, count in enumerate(counts_of(keep, laid - first))]
    for size, count in reversed(sizes):
        some.extend([(row + size * place, size) for place in range(count)])
        row += size * count
    return tuple(some)


def need_rows(first, laid):
    """Refuses what is no eldest row aboard, or not how many were laid."""
    need_number(first)
    if not is_number(laid) or laid < first:
        raise Refused(laid)


def shape(keep, first, laid):
    """The shape of a store in which so many were laid and `first` is the eldest row there."""
    need_keep(keep)
    need_rows(first, laid)
    return shape_from(keep, first, laid)


def is_stretch(value):
    return is_of_parts(value, 2) and is_number(value[0]) and is_number(value[1])


def is_shape(keep, laid, value):
    """Whether any value is a shape of a store in which so many were laid."""
    need_keep(keep)
    need_number(laid)
    if not is_sequence(value) or not all(is_stretch(stretch) for stretch in value):
        return False
    some = tuple([tuple(stretch) for stretch in value])
    first = first_of(some, laid)
    return first <= laid and some == shape_from(keep, first, laid)


def first_of(some, laid):
    """The eldest row there, `laid` if none is."""
    return some[0][0] if len(some) > 0 else laid


def lay_shape(laid, some, keep):
    """The shape behind one row more, so many having been laid ahead."""
    if not is_shape(keep, laid, some):
        raise Refused(some)
    return shape_from(keep, first_of(some, laid), laid + 1)


def let_go_shape(some, below):
    """The shape without what lies below a row."""
    need_number(below)
    return tuple([(first, many) for first, many in some if first + many > below])


def span_at(keep, first, laid, row):
    """The (first, many) that has the row; None if it is gone."""
    some = shape(keep, first, laid)
    if not is_number(row) or row >= laid:
        raise Refused(row)
    for start, many in some:
        if start <= row < start + many:
            return start, many
    return None


def first_behind(keep, first, laid, below):
    """The eldest row that is there when all below one was let go."""
    return first_of(let_go_shape(shape(keep, first, laid), below), laid)


def most_many(keep, age):
    """How many rows a span has at most that has a row behind which so many were laid."""
    need_keep(keep)
    need_number(age)
    many = 1
    # The last of twice as many rows needs keep - 1 spans of each lesser size behind it.
    while (keep - 1) * (2 * many - 1) <= age:
        many *= 2
    return many


def most_spans(keep, rows):
    """How many spans there are at most where at most so many rows are there."""
    need_keep(keep)
    need_number(rows)
    spans = 0
    size = 1
    left = rows
    while left >= keep * size:
        spans += keep
        left -= keep * size
        size *= 2
    return spans + left // size
