"""Spans: what is kept of rows side by side: (first, many, sum, low, high)."""

from farstory.errors import Refused
from farstory.words import is_integer, is_number, is_of_parts, is_sequence, need_number

MOST_VALUE = 1000000


def is_reading(value):
    """Whether any value is one that a row can have."""
    return is_integer(value) and -MOST_VALUE <= value <= MOST_VALUE


def is_size(value):
    """Whether any value is 1, 2, 4, .."""
    return is_number(value) and value > 0 and value & (value - 1) == 0


def sums_with(many, low, high, needs):
    """(least, greatest) sum of so many values from low to high, these among them; None if they are too many."""
    others = many - len(needs)
    if others < 0:
        return None
    return sum(needs) + others * low, sum(needs) + others * high


def spread(many, whole, low, high):
    """So many values from low to high whose sum is the whole, as a list."""
    width = high - low
    if width == 0:
        return [low] * many
    full = (whole - many * low) // width
    if full == many:
        return [high] * many
    over = whole - many * low - full * width
    return [high] * full + [low + over] + [low] * (many - full - 1)


def ends_of(low, high):
    """The values that must be among those whose least and greatest one these are."""
    return (low,) if low == high else (low, high)


def is_span(value):
    if not is_of_parts(value, 5):
        return False
    first, many, whole, low, high = value
    if not is_number(first) or not is_size(many) or not is_integer(whole):
        return False
    if not is_reading(low) or not is_reading(high) or low > high:
        return False
    sums = sums_with(many, low, high, ends_of(low, high))
    return sums is not None and sums[0] <= whole <= sums[1]


def check_span(value):
    """The span as a tuple; Refused for any value that is none."""
    if not is_span(value):
        raise Refused(value)
    return tuple(value)


def row_span(row, value):
    """The span of one row alone."""
    return row, 1, value, value, value


def span_of(first, values):
    """The span of 1, 2, 4, .. rows with these values."""
    need_number(first)
    if not is_sequence(values) or not is_size(len(values)) or not all(is_reading(value) for value in values):
        raise Refused(values)
    return first, len(values), sum(values), min(values), max(values)


def values_for(span):
    """Some values, row by row, of which it is the span."""
    _, many, whole, low, high = check_span(span)
    ends = ends_of(low, high)
    return ends + tuple(spread(many - len(ends), whole - sum(ends), low, high))


def behind(span):
    """The row behind a span."""
    return span[0] + span[1]


def span_of_all(spans):
    """(first, many, sum, low, high) of all rows of spans side by side."""
    wholes = sum([span[2] for span in spans])
    low = min([span[3] for span in spans])
    high = max([span[4] for span in spans])
    return spans[0][0], behind(spans[-1]) - spans[0][0], wholes, low, high


def join(one, other):
    """The span of both, the other one being of as many rows, right behind."""
    if not is_span(one):
        raise Refused(one)
    if not is_span(other) or other[1] != one[1] or other[0] != behind(one):
        raise Refused(other)
    return span_of_all((one, other))


def is_within(span, other):
    """Whether all rows of a span are rows of the other one."""
    return other[0] <= span[0] and behind(span) <= behind(other)


def is_apart(span, other):
    """Whether no row of a span is a row of the other one."""
    return behind(span) <= other[0] or behind(other) <= span[0]


def are_clear(one, other):
    """Whether one of two spans lies within the other, or they are apart."""
    return is_apart(one, other) or is_within(one, other) or is_within(other, one)


def are_spans(value):
    return is_sequence(value) and all(is_span(span) for span in value)


def are_nested(value):
    """Whether any value is a sequence of spans, of each two nested or apart."""
    if not are_spans(value):
        return False
    for at, span in enumerate(value):
        if any([not are_clear(span, other) for other in value[at + 1:]]):
            return False
    return True


def total(spans):
    """(first, many, sum, low, high) of one span or more, each right behind the one ahead."""
    if not are_spans(spans) or len(spans) == 0:
        raise Refused(spans)
    if any([behind(one) != other[0] for one, other in zip(spans, spans[1:])]):
        raise Refused(spans)
    return span_of_all(spans)


def are_parts(parts, span):
    """Whether any value is a sequence of spans within a span, ascending, apart."""
    if not are_spans(parts) or not all(is_within(part, span) for part in parts):
        return False
    return all([behind(one) <= other[0] for one, other in zip(parts, parts[1:])])


def rows_between(first, last, parts):
    """The rows from the first one up to the one ahead of the last that are in none of the parts, as a list."""
    rows = []
    row = first
    for part in parts:
        rows.extend(list(range(row, part[0])))
        row = behind(part)
    return rows + list(range(row, last))


def rest(span, parts):
    """(the rows of the span that are in none of its parts, the sum that is left for them)."""
    if not is_span(span):
        raise Refused(span)
    if not are_parts(parts, span):
        raise Refused(parts)
    rows = rows_between(span[0], behind(span), parts)
    return tuple(rows), span[2] - sum([part[2] for part in parts])
