"""Points 19 to 22: told spans and values."""

import itertools
import random

from farstory.errors import Quarrel
from farstory.values import (
    check_told_spans, covering, known_span, rest_of, some_rows, some_values, span_quarrel, values_fit, values_of)
from tests.helping import NO_INTEGERS, NO_NUMBERS, NO_SEQUENCES, ODD, Case, lists

FAR = 10 ** 6
ALL = ((-FAR, FAR),)
SPANS = ((0, 1, 1, 1, 1), (0, 4, 10, 1, 5))
NO_SPANS = (
    None, True, 0, "", "abcde", (), (0, 1, 1, 1), (0, 1, 1, 1, 1, 1), (-1, 1, 1, 1, 1), (0, 0, 1, 1, 1),
    (True, 1, 1, 1, 1), (0, True, 1, 1, 1), (0, 1, True, 1, 1), (0, 1, 1, True, 1), (0, 1, 1, 1, True),
    (None, 1, 1, 1, 1), (0, "1", 1, 1, 1), (0, 1, None, 1, 1), (0, 1, 1, (), 1), (0, 1, 1, 1, "1"), (0, -1, 1, 1, 1),
)


def rows_of(span):
    return range(span[0], span[0] + span[1])


def told(first, values):
    return first, len(values), sum(values), min(values), max(values)


def clear(one, other):
    """Apart or nested, by their rows."""
    mine, yours = set(rows_of(one)), set(rows_of(other))
    return not mine & yours or mine < yours or yours < mine


def plain_parts(spans, span):
    inside = [other for other in spans if set(rows_of(other)) < set(rows_of(span))]
    return sorted(one for one in inside
                  if not [other for other in inside if set(rows_of(one)) < set(rows_of(other))])


def plain_rest(spans, span):
    parts = plain_parts(spans, span)
    rows = [row for row in rows_of(span) if not [part for part in parts if row in rows_of(part)]]
    whole = span[2] - sum(part[2] for part in parts)
    return (tuple(rows), whole, span[3] not in [part[3] for part in parts],
            span[4] not in [part[4] for part in parts])


def plain_quarrel(spans):
    """Word by word as point 20 has it, values gone through."""
    spans = sorted(set(spans))
    pairs = [(one, other) for one, other in itertools.product(spans, spans) if one < other and not clear(one, other)]
    if pairs:
        return ("crossed",) + min(pairs)
    for span in spans:
        low, high = span[3:]
        if low > high or min(low, high) < -FAR or max(low, high) > FAR:
            return "unfit", span
        if [part for part in plain_parts(spans, span) if part[3] < low or part[4] > high]:
            return "unfit", span
        rows, whole, of_low, of_high = plain_rest(spans, span)
        if not [values for values in itertools.product(range(low, high + 1), repeat=len(rows))
                if sum(values) == whole and (not of_low or low in values) and (not of_high or high in values)]:
            return "unfit", span
    return None


def all_that_fit(spans, low, high):
    """By row the values of all rows of the spans, gone through, of those from low to high."""
    rows = sorted({row for span in spans for row in rows_of(span)})
    found = []
    for values in itertools.product(range(low, high + 1), repeat=len(rows)):
        had = dict(zip(rows, values))
        if all(told(span[0], [had[row] for row in rows_of(span)]) == span for span in spans):
            found.append(tuple(had.items()))
    return rows, found


def stretches(values):
    out = []
    for value in sorted(values):
        if out and value == out[-1][1] + 1:
            out[-1][1] = value
        else:
            out.append([value, value])
    return tuple(map(tuple, out))


def random_spans(chance, many_rows, far, bend):
    """Told spans of random rows, most of them nested or apart, some of them perhaps bent."""
    values = [chance.randrange(far + 1) for _ in range(many_rows)]
    spans = []
    for _ in range(chance.randrange(1, 5)):
        first = chance.randrange(many_rows)
        span = told(first, values[first:first + chance.randrange(1, many_rows - first + 1)])
        if bend == 1 or all(span[:2] == other[:2] or clear(span, other) for other in spans):
            spans.append(span)
    if bend == 2:
        at, part = chance.randrange(len(spans)), chance.randrange(2, 5)
        spans[at] = spans[at][:part] + (spans[at][part] + chance.choice((-1, 1)),) + spans[at][part + 1:]
    return spans


class Checks(Case):
    def test_ascending_and_once(self):
        spans = [(4, 2, 9, 1, 8), [0, 1, 5, 5, 5], (0, 1, 5, 5, 5), (0, 2, -9, 7, -7), (0, 1, 5, 4, 5), [4, 2, 9, 1, 8]]
        wanted = ((0, 1, 5, 4, 5), (0, 1, 5, 5, 5), (0, 2, -9, 7, -7), (4, 2, 9, 1, 8))
        self.same(check_told_spans(spans), wanted)
        self.same(check_told_spans(wanted), wanted)
        self.same(check_told_spans([]), ())
        self.same(check_told_spans(()), ())
        self.same(check_told_spans([(10 ** 9, 3, -10 ** 9, 10 ** 9, -10 ** 9)]), ((10 ** 9, 3, -10 ** 9, 10 ** 9, -10 ** 9),))

    def test_refused_ahead_of_all_else(self):
        wrong = NO_SEQUENCES + ((0, 1, 1, 1, 1),) + tuple([span] for span in NO_SPANS) + tuple(
            ((0, 1, 1, 1, 1), span) for span in NO_SPANS)
        for value in wrong:
            self.refuses(value, check_told_spans, value)
            self.refuses(value, span_quarrel, value)
            self.refuses(value, values_fit, value, None)
            self.refuses(value, values_of, value, None)
            self.refuses(value, some_values, value, None, None)
            self.refuses(value, some_rows, value, None)
            self.refuses(value, covering, value, 0, 1)
            self.refuses(value, known_span, value, 0, 1)

    def test_quarrels_behind_it(self):
        for spans in (((0, 2, 9, 1, 5),), ((0, 2, 3, 1, 2), (1, 2, 3, 1, 2)), [[3, 1, 1, 1, 2]]):
            paper = plain_quarrel([tuple(span) for span in spans])
            for value in (None, True, -1, 0):
                self.fails(Quarrel, paper, values_of, spans, value)
                self.fails(Quarrel, paper, some_values, spans, value, value)
                self.fails(Quarrel, paper, some_rows, spans, value)

    def test_rows(self):
        for value in NO_NUMBERS:
            self.refuses(value, values_of, SPANS, value)
            self.refuses(value, values_of, (), value)
            self.refuses(value, some_values, SPANS, value, None)

    def test_values(self):
        for value in NO_INTEGERS + (-1, 0, 4, 6, 10 ** 9):
            self.refuses(value, some_values, SPANS, 2, value)
        for value in NO_INTEGERS + (FAR + 1, -FAR - 1):
            self.refuses(value, some_values, SPANS, 4, value)
            self.refuses(value, some_values, (), 4, value)
        self.refuses(True, some_values, ((0, 1, 1, 1, 1),), 0, True)

    def test_many(self):
        for value in NO_NUMBERS + (0, 1, 3):
            self.refuses(value, some_rows, SPANS, value)
        self.same(len(some_rows(SPANS, 4)), 4)
        self.same(some_rows((), 0), ())
        self.same(some_rows([], 3), (0, 0, 0))
        self.refuses(9, some_rows, ((0, 1, 1, 1, 1), (5, 5, 5, 1, 1)), 9)


class Fit(Case):
    def test_values(self):
        good = ((0, 1), (1, 1), (2, 3), (3, 5))
        self.assertIs(values_fit(SPANS, good), True)
        self.assertIs(values_fit(lists(SPANS), lists(good)), True)
        self.assertIs(values_fit(SPANS, good + ((4, -FAR), (10 ** 9, FAR))), True)
        self.assertIs(values_fit(SPANS * 2, good), True)
        for value in ODD + (
            good[1:], good[:3], good[::-1], good + ((3, 5),), good + ((4, FAR + 1),), good + ((4, -FAR - 1),),
            good + ((7, 1), (7, 1)), good + ((8, 1), (7, 1)), ((9, 0),) + good, good + ((4, None),), good + ((4, True),), good + ((4, 0, 0),), good + ((4,),), good + ("40",), good + (None,),
            good + ((True, 0),), ((False, 1),) + good[1:], ((0, True),) + good[1:], ((-1, 0),) + good,
            ((0, 2), (1, 1), (2, 2), (3, 5)), ((0, 1), (1, 2), (2, 3), (3, 4)), ((0, 1), (1, 0), (2, 4), (3, 5)),
            ((0, 1), (1, 1), (2, 2), (3, 6)), ((0, 1), (1, 1), (2, 2), (3, 5)), good[:2] + ((2, 3), (2, 3), (3, 5)),
            good[:1] + good, good[:2] + (("2", 3),) + good[3:],
        ):
            self.assertIs(values_fit(SPANS, value), False, value)

    def test_of_no_spans(self):
        for value in ODD:
            self.assertIs(values_fit((), value), value in ((), []) and isinstance(value, (list, tuple)), value)
        self.assertIs(values_fit([], ((3, 4), (5, 6))), True)

    def test_spans_that_nothing_fits(self):
        for spans in (((0, 2, 9, 1, 5),), ((0, 1, 1, 2, 1),), ((0, 1, 1, 1, 1), (0, 1, 2, 2, 2))):
            for values in itertools.product(range(6), repeat=2):
                self.assertIs(values_fit(spans, ((0, values[0]), (1, values[1]))), False)

    def test_by_reckoning(self):
        chance = random.Random(9)
        for _ in range(300):
            spans = random_spans(chance, 3, 2, chance.randrange(3))
            rows, found = all_that_fit(set(spans), 0, 2)
            for values in itertools.product(range(3), repeat=len(rows)):
                value = tuple(zip(rows, values))
                self.assertIs(values_fit(spans, value), value in found)


class Quarrels(Case):
    def test_crossed(self):
        one, other, third = (0, 2, 3, 1, 2), (1, 2, 3, 1, 2), (2, 2, 3, 1, 2)
        self.same(span_quarrel((third, other, one)), ("crossed", one, other))
        self.same(span_quarrel((one, one, third)), None)
        self.same(span_quarrel(((0, 1, 1, 1, 1), (0, 1, 2, 2, 2))), ("crossed", (0, 1, 1, 1, 1), (0, 1, 2, 2, 2)))
        self.same(span_quarrel(((0, 2, 3, 1, 2), (0, 2, 3, 0, 3))), ("crossed", (0, 2, 3, 0, 3), (0, 2, 3, 1, 2)))
        self.same(span_quarrel([[0, 2, 9, 1, 5], (5, 2, 3, 1, 2), (6, 2, 3, 1, 2)]),
                  ("crossed", (5, 2, 3, 1, 2), (6, 2, 3, 1, 2)))
        self.same(span_quarrel(((0, 4, 6, 1, 2), (1, 2, 3, 1, 2), (3, 3, 4, 1, 2), (2, 4, 6, 1, 2))),
                  ("crossed", (0, 4, 6, 1, 2), (2, 4, 6, 1, 2)))

    def test_unfit(self):
        for span in (
            (0, 1, 1, 2, 1), (0, 1, 3, 2, 4), (0, 1, 1, 0, 1), (0, 1, FAR + 1, FAR + 1, FAR + 1), (0, 2, 9, 1, 5),
            (0, 2, 0, -FAR - 1, FAR + 1), (0, 2, -1, -FAR - 1, FAR), (0, 2, 1, -FAR, FAR + 1), (0, 3, 6, 1, 5),
            (0, 3, 12, 1, 5), (0, 3, 4, 1, 1), (0, 3, 2, 1, 1), (0, 2, 3, 2, 1),
            (0, 3, 5, 2, 1), (0, 3, 4, 2, 1), (3, 2, 10 ** 9, 10 ** 9, -10 ** 9),
        ):
            self.same(span_quarrel([span]), ("unfit", span))
            self.same(span_quarrel([(20, 1, 1, 1, 1), span]), ("unfit", span))
        for span in ((0, 3, 7, 1, 5), (0, 3, 11, 1, 5), (0, 3, 3, 1, 1), (0, 2, 0, -FAR, FAR), (0, 1, FAR, FAR, FAR)):
            self.same(span_quarrel([span]), None)

    def test_first_unfit(self):
        early, late = (1, 1, 0, 0, 1), (0, 4, 10, 1, 5)
        self.same(span_quarrel((early, late)), ("unfit", late))
        self.same(span_quarrel((early, (0, 4, 6, 0, 5))), ("unfit", early))
        self.same(span_quarrel(((0, 1, 2, 1, 2), (0, 4, 10, 1, 5))), ("unfit", (0, 1, 2, 1, 2)))

    def test_parts(self):
        for parts, quarrel in (
            (((0, 2, 3, 1, 2), (2, 2, 7, 3, 4)), False), (((0, 2, 3, 1, 2), (2, 2, 6, 2, 4)), True),
            (((0, 2, 3, 1, 2), (2, 1, 4, 4, 4)), False), (((0, 2, 3, 1, 2), (2, 1, 3, 3, 3)), False),
            (((0, 2, 3, 1, 2), (2, 1, 2, 2, 2)), True), (((0, 2, 1, 0, 1),), True), (((0, 2, 6, 1, 5),), True),
            (((0, 3, 9, 2, 4),), False), (((0, 3, 10, 3, 4),), True), (((0, 3, 9, 1, 4),), False),
            (((0, 3, 5, 1, 3),), True),
        ):
            spans = parts + ((0, 4, 10, 1, 4),)
            self.assertEqual(plain_quarrel(spans) is not None, quarrel, parts)
            self.same(span_quarrel(spans), plain_quarrel(spans))

    def test_by_reckoning(self):
        chance = random.Random(10)
        words = []
        for _ in range(3000):
            spans = random_spans(chance, 4, 2, chance.randrange(3))
            paper = span_quarrel(spans)
            self.same(paper, plain_quarrel(spans))
            words.append(None if paper is None else paper[0])
            if words[-1] != "crossed":
                self.assertEqual(paper is None, bool(all_that_fit(set(spans), -1, 3)[1]), spans)
        self.assertTrue(all(words.count(word) > 300 for word in (None, "crossed", "unfit")))

    def test_rest_of(self):
        self.same(rest_of(SPANS, SPANS[1]), ((1, 2, 3), 9, False, True))
        self.same(rest_of(lists(SPANS), list(SPANS[0])), ((0,), 1, True, True))
        chance = random.Random(11)
        for _ in range(500):
            spans = sorted(set(random_spans(chance, 7, 3, 0)))
            for span in spans:
                self.same(rest_of(spans, span), plain_rest(spans, span))


class OneRow(Case):
    def test_by_reckoning(self):
        chance = random.Random(12)
        seen = set()
        for _ in range(500):
            spans = random_spans(chance, 4, chance.choice((1, 2, 4)), 0)
            rows, found = all_that_fit(set(spans), 0, 4)
            for row in range(6):
                if row not in rows:
                    self.same(values_of(spans, row), ALL)
                    continue
                values = {dict(one)[row] for one in found}
                self.same(values_of(spans, row), stretches(values))
                seen.add(len(values_of(spans, row)))
                for value in range(-1, 6):
                    if value not in values:
                        self.refuses(value, some_values, spans, row, value)
                        continue
                    some = some_values(spans, row, value)
                    self.assertIn(some, found)
                    self.assertEqual(dict(some)[row], value)
        self.assertEqual(seen, {1, 2, 3})

    def test_no_more_than_three(self):
        self.same(values_of(((0, 3, 10, 0, 10),), 1), ((0, 0), (10, 10)))
        self.same(values_of(((0, 4, 15, 0, 10),), 1), ((0, 5), (10, 10)))
        self.same(values_of(((0, 3, 13, 0, 10),), 1), ((0, 0), (3, 3), (10, 10)))
        self.same(values_of(((0, 3, 11, 0, 10),), 1), ((0, 1), (10, 10)))
        self.same(values_of(((0, 3, 19, 0, 10),), 1), ((0, 0), (9, 10)))
        self.same(values_of(((0, 3, 12, 0, 10),), 1), ((0, 0), (2, 2), (10, 10)))
        self.same(values_of(((0, 3, 16, 3, 10),), 1), ((3, 3), (10, 10)))
        self.same(values_of([(0, 4, 26, 3, 10)], 1), ((3, 10),))
        self.same(values_of([(0, 4, 20, 3, 10)], 1), ((3, 4), (10, 10)))
        self.same(values_of(((0, 2, 0, -FAR, FAR),), 0), ((-FAR, -FAR), (FAR, FAR)))
        self.same(values_of(((0, 3, 1, -FAR, FAR),), 0), ((-FAR, -FAR), (1, 1), (FAR, FAR)))
        self.same(values_of(((0, 3, 3, 1, 1),), 0), ((1, 1),))

    def test_row_of_no_span(self):
        for row, value in ((4, -FAR), (4, FAR), (10 ** 9, 0)):
            some = some_values(SPANS, row, value)
            self.assertEqual(some[-1], (row, value))
            self.assertEqual([one for one, _ in some], [0, 1, 2, 3, row])
            self.assertIs(values_fit(SPANS, some), True)
        self.same(some_values([], 7, 3), ((7, 3),))
        self.same(some_values(((5, 1, 2, 2, 2),), 3, 9), ((3, 9), (5, 2)))

    def test_some_rows(self):
        chance = random.Random(13)
        for _ in range(500):
            spans = random_spans(chance, 6, 4, 0)
            rows = {row for span in spans for row in rows_of(span)}
            for many in (max(rows) + 1, 8):
                found = some_rows(lists(spans), many)
                self.assertIsInstance(found, tuple)
                self.assertEqual(len(found), many)
                self.assertIs(values_fit(spans, tuple(enumerate(found))), True)
                self.assertEqual([found[row] for row in range(many) if row not in rows], [0] * (many - len(rows)))


class Known(Case):
    def test_by_reckoning(self):
        chance = random.Random(14)
        met = 0
        for _ in range(600):
            spans = random_spans(chance, 6, 4, 0)
            for first in range(8):
                for many in range(8):
                    rows = set(range(first, first + many))
                    inside = [span for span in set(spans) if set(rows_of(span)) <= rows]
                    great = sorted(one for one in inside if not [
                        other for other in inside if set(rows_of(one)) < set(rows_of(other))])
                    whole = {row for span in great for row in rows_of(span)} == rows
                    self.same(covering(spans, first, many), tuple(great) if whole else None)
                    if many > 0 and whole:
                        met += 1
                        self.same(known_span(spans, first, many), (
                            first, many, sum(span[2] for span in great), min(span[3] for span in great),
                            max(span[4] for span in great)))
                    elif many > 0:
                        self.assertIsNone(known_span(spans, first, many))
        self.assertGreater(met, 1000)

    def test_plain(self):
        spans = [[4, 4, 0, -1, 1], (0, 4, 10, 1, 5), (0, 1, 1, 1, 1), (0, 1, 1, 1, 1)]
        self.same(covering(spans, 0, 8), ((0, 4, 10, 1, 5), (4, 4, 0, -1, 1)))
        self.same(known_span(spans, 0, 8), (0, 8, 10, -1, 5))
        self.same(covering(spans, 0, 4), ((0, 4, 10, 1, 5),))
        self.same(covering(spans, 0, 1), ((0, 1, 1, 1, 1),))
        for first, many in ((0, 2), (0, 3), (0, 7), (1, 3), (0, 9), (8, 1), (3, 5)):
            self.assertIsNone(covering(spans, first, many))
            self.assertIsNone(known_span(spans, first, many))
        for first in (0, 3, 8, 99):
            self.same(covering(spans, first, 0), ())
            self.same(covering((), first, 0), ())
        self.assertIsNone(known_span((), 0, 1))


class Limits(Case):
    def test_sixty_long_spans(self):
        chance = random.Random(15)
        spans, first = [], 10 ** 9 - 5000
        for _ in range(20):
            values = [chance.randrange(-FAR, FAR + 1) for _ in range(200)]
            spans += [told(first, values), told(first + 20, values[20:120]), told(first + 50, values[50:51])]
            first += 200
        self.assertIsNone(span_quarrel(spans))
        for row in (first - 1, first - 100, first - 150, first - 190):
            (low, high), *_ = values_of(spans, row)
            for value in (low, high):
                some = some_values(spans, row, value)
                self.assertEqual(len(some), 4000)
                self.assertEqual(dict(some)[row], value)
                self.assertIs(values_fit(spans, some), True)
        self.same(known_span(spans, 10 ** 9 - 5000, 400)[:2], (10 ** 9 - 5000, 400))
        spans[4] = spans[4][:2] + (10 ** 9,) + spans[4][3:]
        self.same(span_quarrel(spans), ("unfit", spans[3]))

    def test_apart(self):
        spans = [(200 * at, 200, 200 * at, -FAR, FAR) for at in range(60)]
        self.assertIsNone(span_quarrel(spans))
        self.assertIs(values_fit(spans, some_values(spans, 60 * 200 - 1, FAR)), True)
        self.assertEqual(covering(spans, 0, 12000), tuple(spans))

    def test_four_hundred_rows(self):
        spans = [(0, 200, 7, -FAR, FAR), (200, 200, -FAR - 7, -FAR, 0), (3, 1, 5, 5, 5)]
        found = some_rows(spans, 400)
        self.assertEqual(len(found), 400)
        self.assertIs(values_fit(spans, list(enumerate(found))), True)
