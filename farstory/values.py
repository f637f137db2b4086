"""Told spans, and which values rows can have by them."""

from farstory.errors import Quarrel, Refused
from farstory.spans import MOST_VALUE, behind, is_apart, is_reading, is_within, rows_between, span_of_all
from farstory.spans import spread, sums_with
from farstory.stretches import has, merged
from farstory.words import is_integer, is_number, is_of_parts, is_sequence, need_number


def is_told_span(value):
    if not is_of_parts(value, 5) or not all(is_integer(part) for part in value):
        return False
    return value[0] >= 0 and value[1] >= 1


def check_told_spans(value):
    """The told spans ascending, each once, as tuples; Refused for any value that is none."""
    if not is_sequence(value) or not all(is_told_span(span) for span in value):
        raise Refused(value)
    return tuple(sorted({tuple(span) for span in value}))


def greatest_within(told, first, many):
    """Of spans nested or apart the greatest ones within these rows, ascending, as a list."""
    inside = [one for one in told if first <= one[0] and behind(one) <= first + many]
    greatest = []
    # Of spans from one row on the longest one comes first: the others lie within it.
    for span in sorted(inside, key=lambda one: (one[0], -one[1])):
        if not greatest or span[0] >= behind(greatest[-1]):
            greatest.append(span)
    return greatest


def parts_of(told, span):
    return greatest_within([other for other in told if other != span], span[0], span[1])


def has_low(parts, low):
    return any([part[3] == low for part in parts])


def has_high(parts, high):
    return any([part[4] == high for part in parts])


def sum_left(parts, span):
    """The sum of the values of the rows that are in no part."""
    return span[2] - sum([part[2] for part in parts])


def needs_left(parts, span):
    """The low and the high of a span that no part has, each value once, as a list."""
    low, high = span[3:]
    needs = [] if has_low(parts, low) else [low]
    if not has_high(parts, high) and high not in needs:
        needs.append(high)
    return needs


def rest_of(spans, span):
    """(the rows of no part, the sum of their values, whether the low, whether the high must be among them)."""
    told = check_told_spans(spans)
    whole = tuple(span)
    parts = parts_of(told, whole)
    rows = rows_between(whole[0], behind(whole), parts)
    return tuple(rows), sum_left(parts, whole), not has_low(parts, whole[3]), not has_high(parts, whole[4])


def are_crossed(one, other):
    """Whether two unlike told spans are neither apart nor nested."""
    if is_apart(one, other):
        return False
    return one[1] == other[1] or not (is_within(one, other) or is_within(other, one))


def can_be(many, whole, span, needs):
    """Whether so many values of a span, these among them, can have this sum."""
    sums = sums_with(many, span[3], span[4], needs)
    return sums is not None and sums[0] <= whole <= sums[1]


def is_unfit(told, span):
    """Whether a span gainsays itself or its parts."""
    low, high = span[3:]
    if low > high or not is_reading(low) or not is_reading(high):
        return True
    parts = parts_of(told, span)
    if any([part[3] < low or part[4] > high for part in parts]):
        return True
    many = span[1] - sum([part[1] for part in parts])
    return not can_be(many, sum_left(parts, span), span, needs_left(parts, span))


def quarrel_of(told):
    for at, one in enumerate(told):
        for other in told[at + 1:]:
            if are_crossed(one, other):
                return "crossed", one, other
    for span in told:
        if is_unfit(told, span):
            return "unfit", span
    return None


def span_quarrel(spans):
    """None if all are apart or nested and some values fit; else a paper that tells why not."""
    return quarrel_of(check_told_spans(spans))


def need_fitting(spans):
    """The told spans ascending; Quarrel if no values fit."""
    told = check_told_spans(spans)
    paper = quarrel_of(told)
    if paper is not None:
        raise Quarrel(paper)
    return told


def least_with(told, row):
    """The least span that has the row; None if there is none."""
    having = [span for span in told if span[0] <= row < behind(span)]
    return min(having, key=lambda one: one[1]) if having else None


def without(needs, value):
    return [need for need in needs if need != value]


def stretches_at(told, row):
    """The stretches of all values that the row has in some values that fit."""
    span = least_with(told, row)
    if span is None:
        return ((-MOST_VALUE, MOST_VALUE),)
    parts = parts_of(told, span)
    others = span[1] - sum([part[1] for part in parts]) - 1
    whole = sum_left(parts, span)
    needs = needs_left(parts, span)
    # A value that must be had can be this row's own; then the others need it no more.
    found = [(need, need) for need in needs if can_be(others, whole - need, span, without(needs, need))]
    sums = sums_with(others, span[3], span[4], needs)
    if sums is not None:
        found.append((max(span[3], whole - sums[1]), min(span[4], whole - sums[0])))
    return merged(found)


def values_of(spans, row):
    """The stretches (low, high) of all values that the row has in some values that fit."""
    told = need_fitting(spans)
    need_number(row)
    return stretches_at(told, row)


def fill_rest(told, span, found):
    """Gives values to the rows of a span's rest of which none has one yet but perhaps one."""
    parts = parts_of(told, span)
    rows = rows_between(span[0], behind(span), parts)
    whole = sum_left(parts, span)
    needs = needs_left(parts, span)
    for row in rows:
        if row in found:
            whole -= found[row]
            needs = without(needs, found[row])
    free = [row for row in rows if row not in found]
    values = needs + spread(len(free) - len(needs), whole - sum(needs), span[3], span[4])
    for row, value in zip(free, values):
        found[row] = value


def some_values(spans, row, value):
    """Some (row, value) of all rows of the spans, and this one, that fit, the row having this value."""
    told = need_fitting(spans)
    need_number(row)
    if not is_integer(value) or not has(stretches_at(told, row), value):
        raise Refused(value)
    found = {row: value}
    for span in told:
        fill_rest(told, span, found)
    return tuple(sorted(found.items()))


def some_rows(spans, many):
    """The values of rows 0 to many - 1 in some values that fit, 0 for each row of no span."""
    told = need_fitting(spans)
    if not is_number(many) or any([behind(span) > many for span in told]):
        raise Refused(many)
    found = {}
    for span in told:
        fill_rest(told, span, found)
    return tuple([found.get(row, 0) for row in range(many)])


def are_values(value):
    """Whether any value is a sequence of (row, value), rows ascending."""
    if not is_sequence(value) or not all(is_of_parts(pair, 2) for pair in value):
        return False
    if not all(is_number(pair[0]) and is_reading(pair[1]) for pair in value):
        return False
    return all([one[0] < other[0] for one, other in zip(value, value[1:])])


def tells_rightly(span, value):
    """Whether a span tells rightly of values, all of its rows being among them."""
    had = [pair[1] for pair in value if span[0] <= pair[0] < behind(span)]
    return len(had) == span[1] and (sum(had), min(had), max(had)) == span[2:]


def values_fit(spans, value):
    """Whether any value is a sequence of (row, value), rows ascending, of all rows of the spans, that fit."""
    told = check_told_spans(spans)
    return are_values(value) and all([tells_rightly(span, value) for span in told])


def covering(spans, first, many):
    """The greatest told spans within these rows, if they are all these rows; else None."""
    greatest = greatest_within(check_told_spans(spans), first, many)
    if sum([span[1] for span in greatest]) != many:
        return None
    return tuple(greatest)


def known_span(spans, first, many):
    """(first, many, sum, low, high) of these rows as the spans tell; None if they do not."""
    parts = covering(spans, first, many)
    return None if parts is None else span_of_all(parts)
