"""Points 12 and 13: spans."""

import itertools
import random

from farstory.spans import (
    are_nested, behind, check_span, is_apart, is_within, join, rest, row_span, span_of, total, values_for)
from tests.helping import NO_NUMBERS, ODD, Case, lists

FAR = 10 ** 6
NO_SPANS = ODD + (
    (0, 1, 0, 0), (0, 1, 0, 0, 0, 0), (-1, 1, 0, 0, 0), (True, 1, 0, 0, 0), (None, 1, 0, 0, 0), ("0", 1, 0, 0, 0),
    (0, 0, 0, 0, 0), (0, 3, 3, 1, 1), (0, 6, 6, 1, 1), (0, -2, -2, 1, 1), (0, True, 1, 1, 1), (0, "1", 1, 1, 1),
    (0, 1, True, 1, 1), (0, 1, 1, True, 1), (0, 1, 1, 1, True), (0, 1, None, 1, 1), (0, 1, "1", 1, 1),
    (0, 1, 2, 1, 1), (0, 1, 1, 1, 2), (0, 1, 1, 0, 1), (0, 1, 1, 2, 1), (0, 2, 4, 1, 2), (0, 2, 2, 1, 2),
    (0, 2, 3, 2, 1), (0, 4, 5, 1, 3), (0, 4, 11, 1, 3), (0, 4, 3, 1, 1), (0, 1, FAR + 1, FAR + 1, FAR + 1),
    (0, 1, -FAR - 1, -FAR - 1, -FAR - 1), (0, 2, 0, -FAR - 1, FAR + 1), (0, 2, 1, -FAR, FAR + 1),
    (0, 4, 0, (), 0), (0, 4, 0, 0, ()), "abcde",
)
SPANS = (
    (0, 1, 0, 0, 0), (7, 1, -FAR, -FAR, -FAR), (10 ** 9, 1, FAR, FAR, FAR), (0, 2, 0, -FAR, FAR), (3, 2, 3, 1, 2),
    (0, 4, 6, 1, 3), (0, 4, 8, 1, 3), (0, 4, 10, 1, 3), (0, 4, 9, 1, 3), (5, 4, 4, 1, 1),
    (0, 1024, 1022 * FAR, -FAR, FAR), (0, 1024, -1022 * FAR, -FAR, FAR), (0, 1024, 17, -FAR, FAR),
)


def plain_span(first, values):
    return first, len(values), sum(values), min(values), max(values)


def rows_of(span):
    return set(range(span[0], span[0] + span[1]))


class Checks(Case):
    def test_spans(self):
        for span in SPANS:
            self.same(check_span(span), span)
            self.same(check_span(list(span)), span)

    def test_all_small(self):
        for many in (1, 2, 4):
            met = {plain_span(3, values) for values in itertools.product(range(-2, 3), repeat=many)}
            for whole, low, high in itertools.product(range(-9, 10), range(-2, 3), range(-2, 3)):
                span = (3, many, whole, low, high)
                if span in met:
                    self.same(check_span(span), span)
                else:
                    self.refuses(span, check_span, span)

    def test_refused(self):
        for value in NO_SPANS:
            self.refuses(value, check_span, value)
            self.refuses(value, values_for, value)
            self.refuses(value, join, value, value)
            self.refuses(value, rest, value, value)
            self.refuses((0, 1, 2, 2), join, (0, 1, 2, 2, 2), (0, 1, 2, 2))

    def test_row_span(self):
        for value in (-FAR, -1, 0, 5, FAR):
            for row in (0, 9, 10 ** 6):
                self.same(row_span(row, value), (row, 1, value, value, value))


class Made(Case):
    def test_span_of(self):
        chance = random.Random(2)
        for many in (1, 2, 4, 8, 1024):
            values = [chance.randrange(-FAR, FAR + 1) for _ in range(many)]
            self.same(span_of(5, values), plain_span(5, values))
            self.same(span_of(0, tuple(values)), plain_span(0, values))
        self.same(span_of(4, (5, -2)), (4, 2, 3, -2, 5))

    def test_span_of_none(self):
        for value in NO_NUMBERS:
            self.refuses(value, span_of, value, (1,))
            self.refuses(value, span_of, value, None)
        no_values = tuple(value for value in ODD if value not in ((0,), [1], (0, 0), (1, 1, 1, 1))) + (
            (), (1, 2, 3), (1,) * 5, (1,) * 6, (1,) * 1023, (FAR + 1,), (-FAR - 1,), (1, None), (1, True), ("1",),
            ((1,),), "a", "ab", 1, (1, 2, 3, "4"))
        for value in no_values:
            self.refuses(value, span_of, 0, value)

    def test_values_for(self):
        for many in (1, 2, 4):
            for values in itertools.product(range(-2, 3), repeat=many):
                span = plain_span(2, values)
                found = values_for(span)
                self.assertIsInstance(found, tuple)
                self.same(plain_span(2, found), span)

    def test_values_for_far(self):
        chance = random.Random(3)
        for many in (8, 16, 512, 1024):
            for _ in range(20):
                values = [chance.randrange(-FAR, FAR + 1) for _ in range(many)]
                self.same(plain_span(0, values_for(list(plain_span(0, values)))), plain_span(0, values))
                values = [chance.choice((-FAR, FAR)) for _ in range(many)]
                self.same(plain_span(0, values_for(plain_span(0, values))), plain_span(0, values))
        for span in SPANS:
            self.same(plain_span(span[0], values_for(span)), span)


class Joined(Case):
    def test_join(self):
        for one in itertools.product((-3, 0, 4), repeat=2):
            for other in itertools.product((-3, 0, 4), repeat=2):
                self.same(join(plain_span(6, one), list(plain_span(8, other))), plain_span(6, one + other))
        self.same(join(row_span(0, FAR), row_span(1, -FAR)), (0, 2, 0, -FAR, FAR))

    def test_not_right_behind(self):
        one = (4, 2, 3, -2, 5)
        for other in (
            (4, 2, 3, -2, 5), (5, 2, 3, -2, 5), (7, 2, 3, -2, 5), (2, 2, 3, -2, 5), (6, 1, 5, 5, 5), (6, 4, 20, 5, 5),
            (6, 2, 3, 1, 1), None, (), (6, 2, 2, True, 1), [6, 1, 5, 5, 5],
        ):
            self.refuses(other, join, one, other)
        self.refuses(None, join, None, (6, 1, 5, 5, 5))

    def test_in_whatever_order(self):
        chance = random.Random(4)
        for _ in range(40):
            values = [chance.randrange(-9, 10) for _ in range(16)]
            spans = [row_span(3 + row, value) for row, value in enumerate(values)]
            while len(spans) > 1:
                places = [at for at in range(len(spans) - 1)
                          if spans[at][1] == spans[at + 1][1] and (spans[at][0] - 3) % (2 * spans[at][1]) == 0]
                self.same(total(spans), plain_span(3, values))
                at = chance.choice(places)
                spans[at:at + 2] = [join(spans[at], spans[at + 1])]
            self.same(spans[0], plain_span(3, values))

    def test_total(self):
        for many in (1, 2, 3, 5, 6):
            values = [3 * row - 7 for row in range(many)]
            self.same(total([row_span(9 + row, value) for row, value in enumerate(values)]), plain_span(9, values))
        self.same(total(([0, 2, 3, 1, 2], (2, 1, 0, 0, 0), (3, 4, 8, 2, 2))), (0, 7, 11, 0, 2))
        self.same(total([row_span(row, row) for row in range(1024)])[:3], (0, 1024, 1023 * 512))

    def test_no_total(self):
        one = (0, 2, 3, 1, 2)
        for value in ODD + (
            (), [], one, [one, one], [one, (3, 1, 0, 0, 0)], [one, (1, 1, 0, 0, 0)], [(2, 1, 0, 0, 0), one],
            [one, (2, 1, 1, 0, 0)], [one, None], [None], [one, (2, 1, 0, 0, 0), (4, 1, 0, 0, 0)], [one, (2, 3, 0, 0, 0)],
        ):
            self.refuses(value, total, value)


class Placed(Case):
    def test_by_rows(self):
        places = [(first, many) for first in range(6) for many in (1, 2, 4)]
        for one, other in itertools.product(places, places):
            span, beside = one + (one[1], 1, 1), other + (2 * other[1], 2, 2)
            self.assertIs(is_within(span, beside), rows_of(span) <= rows_of(beside))
            self.assertIs(is_apart(span, beside), not rows_of(span) & rows_of(beside))
            self.assertIs(is_within(list(span), list(beside)), is_within(span, beside))
            clear = (rows_of(span) <= rows_of(beside) or rows_of(beside) <= rows_of(span)
                     or not rows_of(span) & rows_of(beside))
            self.assertIs(are_nested((span, beside)), clear)
            self.assertIs(are_nested([(50, 1, 0, 0, 0), list(span), (51, 2, 0, 0, 0), beside]), clear)
            self.same(behind(span), one[0] + one[1])
            self.same(behind(list(span)), one[0] + one[1])

    def test_are_nested(self):
        for value in ((), [], [(0, 1, 0, 0, 0)], [(0, 2, 1, 0, 1), (0, 2, 2, 0, 2)], ((0, 1, 5, 5, 5),) * 3):
            self.assertIs(are_nested(value), True)
        for value in NO_SPANS:
            self.assertIs(are_nested(value), value in ((), []) and isinstance(value, (list, tuple)))
            self.assertIs(are_nested([value]), False)
            self.assertIs(are_nested([(0, 1, 0, 0, 0), value]), False)

    def test_sixty(self):
        spans = [(8 * at, 8 >> k, 0, 0, 0) for at in range(15) for k in range(4)]
        self.assertIs(are_nested(spans), True)
        self.assertIs(are_nested(spans[:-1] + [(119, 2, 0, 0, 0)]), False)
        self.assertIs(are_nested(spans[:-1] + [(120, 2, 0, 0, 0)]), True)


class Rest(Case):
    def test_all_small(self):
        values = (5, -2, 3, 3, 0, 1, -9, 4)
        span = plain_span(4, values)
        places = [(first, many) for many in (1, 2, 4, 8) for first in range(3, 13)]
        good = 0
        for count in range(4):
            for chosen in itertools.product(places, repeat=count):
                inside = [4 <= first and first + many <= 12 for first, many in chosen]
                apart = [one[0] + one[1] <= other[0] for one, other in zip(chosen, chosen[1:])]
                parts = [
                    plain_span(first, values[first - 4:first - 4 + many]) if inside[at] else (first, many, 0, 0, 0)
                    for at, (first, many) in enumerate(chosen)]
                if not all(inside) or not all(apart):
                    if count < 3:
                        self.refuses(parts, rest, span, parts)
                    continue
                good += 1
                gone = set().union(*[rows_of(part) for part in parts])
                rows = tuple(row for row in range(4, 12) if row not in gone)
                self.same(rest(span, parts), (rows, sum(values[row - 4] for row in rows)))
        self.assertGreater(good, 100)

    def test_parts(self):
        span = [4, 4, 9, -2, 5]
        self.same(rest(span, ()), ((4, 5, 6, 7), 9))
        self.same(rest(span, [span]), ((), 0))
        self.same(rest(span, [(4, 4, 5, 0, 2)]), ((), 4))
        self.same(rest(span, ([5, 1, 900, 900, 900],)), ((4, 6, 7), -891))
        for value in NO_SPANS:
            if value not in ((), []):
                self.refuses(value, rest, span, value)
            self.refuses([value], rest, span, [value])
        self.refuses(None, rest, span, None)
        self.refuses([(4, 1, 0, 0, 0), None], rest, span, [(4, 1, 0, 0, 0), None])
        self.refuses([(5, 1, 0, 0, 0), (4, 1, 0, 0, 0)], rest, span, [(5, 1, 0, 0, 0), (4, 1, 0, 0, 0)])
        self.refuses(None, rest, None, ())

    def test_long(self):
        values = list(range(1024))
        parts = [plain_span(row, values[row:row + 4]) for row in range(0, 1024, 8)]
        rows = tuple(row for row in values if row % 8 > 3)
        self.same(rest(plain_span(0, values), parts), (rows, sum(rows)))
        self.same(lists(rest(plain_span(0, values), lists(parts))), [list(rows), sum(rows)])
