"""Known: what told spans tell of rows, kind by kind."""

from farstory.errors import NoRow, Quarrel, Refused
from farstory.logs import check_logs, joined_rows
from farstory.offsets import told_spans
from farstory.setups import check_setup, need_kind
from farstory.spans import behind
from farstory.values import check_told_spans, known_span, least_with, span_quarrel, stretches_at
from farstory.words import is_number, is_of_parts, need_number


def checked_spans(kinds, value):
    """By kind the told spans ascending, each once."""
    if not is_of_parts(value, len(kinds)):
        raise Refused(value)
    try:
        return tuple([check_told_spans(spans) for spans in value])
    except Refused:
        raise Refused(value) from None


def need_peace(known):
    """Quarrel with the first kind of which no values fit the spans."""
    for kind, spans in enumerate(known):
        paper = span_quarrel(spans)
        if paper is not None:
            raise Quarrel((kind, *paper))


def check_known(setup, value):
    """By kind the spans ascending, each once, as tuples."""
    kinds = check_setup(setup)[0]
    known = checked_spans(kinds, value)
    need_peace(known)
    return known


def known_of(setup, logs):
    """What the cargo of all frames tells that any house heard."""
    checked = check_setup(setup)
    frames = joined_rows(check_logs(checked, logs))[0]
    known = tuple([told_spans(frames, kind) for kind in range(len(checked[0]))])
    need_peace(known)
    return known


def both_known(setup, one, other):
    """What is known by the one and by the other."""
    mine = check_known(setup, one)
    yours = check_known(setup, other)
    return check_known(setup, [spans + more for spans, more in zip(mine, yours)])


def tells_all(setup, known, other):
    """Whether what is known tells each span of the other."""
    mine = check_known(setup, known)
    yours = check_known(setup, other)
    for spans, more in zip(mine, yours):
        if any([known_span(spans, span[0], span[1]) != span for span in more]):
            return False
    return True


def spans_of(setup, known, kind):
    """The told spans of a kind."""
    checked = check_known(setup, known)
    need_kind(checked, kind)
    return checked[kind]


def is_told(spans, row):
    """Whether all values that fit give the row the same value."""
    stretches = stretches_at(spans, row)
    return len(stretches) == 1 and stretches[0][0] == stretches[0][1]


def word_at(spans, row):
    """What is known of a row, without its value."""
    span = least_with(spans, row)
    if span is None:
        return ("untold",)
    return ("value",) if is_told(spans, row) else ("within", span[0], span[1])


def row_known(setup, known, kind, row):
    """("value", value), ("within", first, many) of the least span that has the row, or ("untold",)."""
    spans = spans_of(setup, known, kind)
    if not is_number(row):
        raise NoRow(row)
    word = word_at(spans, row)
    return ("value", stretches_at(spans, row)[0][0]) if word == ("value",) else word


def picture_of(spans, laid):
    """(low, high, word) of the rows below `laid`, as a list."""
    # Where no span begins or ends, the next row is known as the one ahead.
    ends = sorted(set([0, *[span[0] for span in spans], *[behind(span) for span in spans]]))
    edges = [edge for edge in ends if edge < laid]
    stretches = []
    for low, end in zip(edges, edges[1:] + [laid]):
        word = word_at(spans, low)
        if stretches and stretches[-1][2] == word:
            stretches[-1] = (stretches[-1][0], end - 1, word)
        else:
            stretches.append((low, end - 1, word))
    return stretches


def picture(setup, known, kind, laid):
    """(low, high, word) of the rows below `laid`, ascending, side by side, as few as can be."""
    spans = spans_of(setup, known, kind)
    need_number(laid)
    return tuple(picture_of(spans, laid))


def lacks(setup, known, kind, laid):
    """Ascending (low, high) of the rows below `laid` of which nothing is told."""
    return tuple([(low, high) for low, high, word in picture(setup, known, kind, laid) if word == ("untold",)])


def told_to(setup, known, kind):
    """Up to which row, from row 0 on, each row is in some told span."""
    row = 0
    # A span that begins behind a gap is of no help, whatever stands behind it.
    for span in spans_of(setup, known, kind):
        if span[0] <= row:
            row = max(row, behind(span))
    return row
