"""Stores: the spans that are aboard of a kind: (laid, last, spans)."""

from farstory.errors import Refused
from farstory.shapes import is_shape, need_keep
from farstory.spans import are_spans, behind, is_reading, join, row_span
from farstory.words import is_number, is_of_parts, need_number


def empty_store():
    """The store in which nothing was laid."""
    return 0, None, ()


def shape_of(store):
    """By span (first, many)."""
    return tuple([(span[0], span[1]) for span in store[2]])


def is_store(keep, value):
    """Whether any value is a store of such a shape."""
    need_keep(keep)
    if not is_of_parts(value, 3):
        return False
    laid, last, spans = value
    if not is_number(laid) or not are_spans(spans):
        return False
    if laid == 0 and last is not None or laid > 0 and not is_number(last):
        return False
    return is_shape(keep, laid, shape_of(value))


def settled(spans, keep):
    """The spans behind a new one: where too many of a size stand, the two eldest are one."""
    kept = list(spans)
    size = 1
    places = [at for at, span in enumerate(kept) if span[1] == size]
    while len(places) > keep:
        eldest = places[0]
        kept[eldest:eldest + 2] = [join(kept[eldest], kept[eldest + 1])]
        size *= 2
        places = [at for at, span in enumerate(kept) if span[1] == size]
    return tuple(kept)


def lay(store, keep, stamp, value):
    """The store with a row more."""
    need_keep(keep)
    laid, last, spans = store
    if not is_number(stamp) or last is not None and stamp <= last:
        raise Refused(stamp)
    if not is_reading(value):
        raise Refused(value)
    grown = [tuple(span) for span in spans] + [row_span(laid, value)]
    return laid + 1, stamp, settled(grown, keep)


def let_go(store, below):
    """The store without the spans of which all rows lie below this one."""
    need_number(below)
    laid, last, spans = store
    return laid, last, tuple([tuple(span) for span in spans if behind(span) > below])


def span_with(store, row):
    """The span that has the row; None if it is gone."""
    laid, _, spans = store
    if not is_number(row) or row >= laid:
        raise Refused(row)
    for span in spans:
        if span[0] <= row < behind(span):
            return tuple(span)
    return None


def laid_all(keep, rows):
    """The store behind rows (stamp, value), laid, and (None, below), let go."""
    need_keep(keep)
    store = empty_store()
    for stamp, told in rows:
        store = let_go(store, told) if stamp is None else lay(store, keep, stamp, told)
    return store
