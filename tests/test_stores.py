"""Points 14 to 18: stores and shapes."""

import itertools
import random

from farstory.errors import Refused
from farstory.shapes import (
    counts_of, first_behind, first_of, is_shape, lay_shape, let_go_shape, most_many, most_spans, shape, span_at)
from farstory.spans import are_nested
from farstory.stores import empty_store, is_store, laid_all, lay, let_go, shape_of, span_with
from tests.helping import NO_INTEGERS, NO_NUMBERS, ODD, Case, lists, tuples
from tests.plain import plain_lay

FAR = 10 ** 6
KEEPS = (2, 3, 4, 5, 8)
NO_KEEPS = NO_INTEGERS + (-1, 0, 1, 9, 10, 256 ** 201)
STORE = (5, 12, ((0, 2, 3, -2, 5), (2, 2, 6, 3, 3), (4, 1, 8, 8, 8)))


def plain_spans(places, values):
    return tuple(
        (first, many, sum(values[first:first + many]), min(values[first:first + many]), max(values[first:first + many]))
        for first, many in places)


def reached(keep, most):
    """By how many were laid: all shapes that laying and letting go can come to."""
    found = [{()}]
    for laid in range(most + 1):
        heads = list(found[laid])
        for some in heads:
            for below in range(laid + 1):
                found[laid].add(tuple(part for part in some if part[0] + part[1] > below))
        found.append({tuple(plain_lay(list(some), keep, laid)) for some in found[laid]})
    return found[:-1]


class Keeps(Case):
    def test_refused_ahead_of_all_else(self):
        for value in NO_KEEPS:
            self.refuses(value, lay, (0, None, ()), value, -1, None)
            self.refuses(value, laid_all, value, [(-1, 0)])
            self.refuses(value, laid_all, value, [])
            self.refuses(value, shape, value, -1, None)
            self.refuses(value, counts_of, value, 3)
            self.refuses(value, counts_of, value, 0)
            self.refuses(value, is_shape, value, -1, ())
            self.refuses(value, is_shape, value, 0, None)
            self.refuses(value, is_store, value, None)
            self.refuses(value, is_store, value, (0, None, ()))
            self.refuses(value, span_at, value, -1, None, "")
            self.refuses(value, first_behind, value, -1, None, "")
            self.refuses(value, most_many, value, -1)
            self.refuses(value, most_spans, value, -1)
            self.refuses(value, lay_shape, 0, None, value)
            self.refuses(value, lay_shape, 0, (), value)

    def test_all_that_are(self):
        for keep in range(2, 9):
            self.same(counts_of(keep, keep), (keep,))
            self.same(counts_of(keep, keep + 1), (keep - 1, 1))


class Laying(Case):
    def test_empty(self):
        self.same(empty_store(), (0, None, ()))
        self.same(laid_all(2, []), (0, None, ()))

    def test_by_the_rule(self):
        values = [((7 * row * row) % 23) - 11 for row in range(130)]
        for keep in range(2, 9):
            store, places = empty_store(), []
            for row in range(130):
                store = lay(store, keep, 3 * row, values[row])
                places = plain_lay(places, keep, row)
                self.same(store, (row + 1, 3 * row, plain_spans(places, values)))
                self.same(shape_of(store), tuple(places))

    def test_with_letting_go(self):
        chance = random.Random(6)
        for keep in KEEPS:
            for _ in range(12):
                values, deeds = [], []
                store, places = empty_store(), []
                for stamp in range(70):
                    if chance.randrange(5) == 0:
                        below = chance.randrange(len(values) + 3)
                        store = let_go(store, below)
                        places = [part for part in places if part[0] + part[1] > below]
                        deeds.append((None, below))
                    else:
                        values.append(chance.randrange(-FAR, FAR + 1))
                        store = lay(store, keep, stamp, values[-1])
                        places = plain_lay(places, keep, len(values) - 1)
                        deeds.append([stamp, values[-1]])
                    first = places[0][0] if places else len(values)
                    self.same(store[2], plain_spans(places, values))
                    self.same(store[0], len(values))
                    self.same(shape(keep, first, len(values)), tuple(places))
                    self.assertIs(is_store(keep, store), True)
                    self.assertIs(is_shape(keep, len(values), places), True)
                self.same(laid_all(keep, deeds), store)
                self.same(laid_all(keep, tuple(deeds)), store)

    def test_lists_and_tuples(self):
        self.same(lay(lists(STORE), 2, 13, 0), lay(STORE, 2, 13, 0))
        self.same(let_go(lists(STORE), 2), (5, 12, STORE[2][1:]))
        self.same(span_with(lists(STORE), 4), (4, 1, 8, 8, 8))
        self.same(shape_of(lists(STORE)), ((0, 2), (2, 2), (4, 1)))

    def test_stamps(self):
        for value in NO_NUMBERS + (0, 11, 12):
            self.refuses(value, lay, STORE, 2, value, None)
        self.same(lay(STORE, 2, 13, 1)[1], 13)
        for value in NO_NUMBERS:
            self.refuses(value, lay, empty_store(), 2, value, True)
        self.same(lay(empty_store(), 2, 0, 1), (1, 0, ((0, 1, 1, 1, 1),)))
        self.refuses(0, lay, (1, 0, ((0, 1, 1, 1, 1),)), 2, 0, 1)

    def test_values(self):
        for value in NO_INTEGERS + (FAR + 1, -FAR - 1):
            self.refuses(value, lay, STORE, 2, 13, value)
        for value in (FAR, -FAR):
            self.same(lay(STORE, 3, 13, value)[2][-1], (5, 1, value, value, value))

    def test_let_go(self):
        for below, left in ((0, 3), (1, 3), (2, 2), (3, 2), (4, 1), (5, 0), (6, 0), (10 ** 9, 0)):
            self.same(let_go(STORE, below), (5, 12, STORE[2][3 - left:]))
        for value in NO_NUMBERS:
            self.refuses(value, let_go, STORE, value)
            self.refuses(value, let_go, empty_store(), value)

    def test_span_with(self):
        for row, span in enumerate((0, 0, 1, 1, 2)):
            self.same(span_with(STORE, row), STORE[2][span])
        self.same([span_with(let_go(STORE, 4), row) for row in range(5)], [None] * 4 + [STORE[2][2]])
        self.same(span_with((5, 12, ()), 4), None)
        for value in NO_NUMBERS + (5, 6):
            self.refuses(value, span_with, STORE, value)
        self.refuses(0, span_with, empty_store(), 0)

    def test_four_hundred_rows(self):
        for keep in (2, 8):
            store = laid_all(keep, [(3 * row, row) for row in range(400)])
            self.same(shape_of(store), shape(keep, 0, 400))
            self.same(store[2][-1], (399, 1, 399, 399, 399))
            self.assertEqual(sum(span[2] for span in store[2]), 399 * 200)
            self.same(laid_all(keep, [(row, 1) for row in range(400)] + [(None, 400)]), (400, 399, ()))


class Shapes(Case):
    def test_one_shape(self):
        for keep in (2, 3, 4):
            for laid, found in enumerate(reached(keep, 14)):
                wanted = {shape(keep, first, laid) for first in range(laid + 1)}
                self.assertEqual(found, wanted)
                self.assertEqual(len(found), laid + 1)
                for some in found:
                    self.assertIs(is_shape(keep, laid, some), True)
                    self.assertIs(is_shape(keep, laid, lists(some)), True)
                    self.same(lay_shape(laid, some, keep), tuple(plain_lay(list(some), keep, laid)))
                    self.same(lay_shape(laid, lists(some), keep), lay_shape(laid, some, keep))

    def test_no_others(self):
        for keep in (2, 3):
            for laid, found in enumerate(reached(keep, 7)):
                for count in range(laid + 1):
                    for sizes in itertools.product((1, 2, 3, 4), repeat=count):
                        first = laid - sum(sizes)
                        some = tuple((first + sum(sizes[:at]), many) for at, many in enumerate(sizes))
                        self.assertIs(is_shape(keep, laid, some), some in found, (keep, laid, some))

    def test_no_shapes(self):
        good = ((0, 2), (2, 2), (4, 1))
        self.assertIs(is_shape(2, 5, good), True)
        for value in ODD + (
            good[1:2], good[:2], good[::-1], good + ((5, 1),), ((0, 2), (2, 2), (4, True)), ((0, 2), (2, 2), (4, 1, 1)),
            ((0, 2), (2, 2), (4,)), ((0, 2), (2, 2), None), ((0, 2), (3, 2), (5, 1)), ((1, 2), (3, 2)), ((6, 1),),
            ((0, 4), (4, 1)), ((-1, 2), (1, 2), (3, 1), (4, 1)), ((0, 2), (2, 2), "41"), (("0", "2"),), ((False, 5),),
            ((5, 0),), ((0, 2), (2, 2), (4, 1), (5, 0)),
        ):
            self.assertIs(is_shape(2, 5, value), value in ((), []) and isinstance(value, (list, tuple)), value)
            if not is_shape(2, 5, value):
                self.refuses(value, lay_shape, 5, value, 2)
        self.refuses(good, lay_shape, 6, good, 2)
        self.refuses(good, lay_shape, 5, good, 3)
        self.assertIs(is_shape(2, 0, ()), True)
        self.assertIs(is_shape(2, 0, ((0, 1),)), False)
        self.assertIs(is_shape(2, 1, ((False, True),)), False)
        for value in NO_NUMBERS:
            self.refuses(value, is_shape, 2, value, None)

    def test_counts(self):
        for keep in range(2, 9):
            places = []
            self.same(counts_of(keep, 0), ())
            for many in range(1, 300):
                places = plain_lay(places, keep, many - 1)
                sizes = [size for _, size in places]
                self.assertEqual(sizes, sorted(sizes, reverse=True))
                counts = tuple(sizes.count(1 << k) for k in range(max(sizes).bit_length()))
                self.same(counts_of(keep, many), counts)
                self.assertTrue(all(count in (keep - 1, keep) for count in counts[:-1]))
                self.assertTrue(1 <= counts[-1] <= keep)
                self.same(shape(keep, 5, 5 + many), tuple((5 + first, size) for first, size in places))

    def test_arguments_of_shape(self):
        for function, more in ((shape, ()), (span_at, (None,)), (first_behind, (None,))):
            for value in NO_NUMBERS:
                self.refuses(value, function, 2, value, -1, *more)
                self.refuses(value, function, 2, 0, value, *more)
            self.refuses(4, function, 2, 5, 4, *more)
            self.refuses(0, function, 2, 1, 0, *more)
        self.same(shape(2, 5, 5), ())
        self.same(shape(2, 0, 0), ())

    def test_first_of(self):
        self.same(first_of((), 7), 7)
        self.same(first_of([], 0), 0)
        self.same(first_of(((3, 2), (5, 1)), 6), 3)
        self.same(first_of([[0, 1]], 1), 0)

    def test_let_go_shape(self):
        some = ((1, 4), (5, 2), (7, 1))
        for below, left in ((0, 3), (4, 3), (5, 2), (6, 2), (7, 1), (8, 0), (99, 0)):
            self.same(let_go_shape(some, below), some[3 - left:])
            self.same(let_go_shape(lists(some), below), some[3 - left:])
        self.same(let_go_shape((), 3), ())
        for value in NO_NUMBERS:
            self.refuses(value, let_go_shape, some, value)
            self.refuses(value, let_go_shape, (), value)

    def test_span_at(self):
        for keep in KEEPS:
            for first, laid in ((0, 1), (0, 40), (7, 40), (39, 40)):
                some = shape(keep, first, laid)
                for row in range(laid):
                    having = [part for part in some if part[0] <= row < part[0] + part[1]]
                    self.same(span_at(keep, first, laid, row), having[0] if having else None)
        for value in NO_NUMBERS + (40, 41):
            self.refuses(value, span_at, 2, 7, 40, value)
        self.refuses(0, span_at, 2, 0, 0, 0)
        self.same(span_at(2, 5, 5, 4), None)

    def test_first_behind(self):
        for keep in KEEPS:
            for first, laid in ((0, 0), (0, 40), (7, 40), (40, 40)):
                for below in range(45):
                    some = let_go_shape(shape(keep, first, laid), below)
                    self.same(first_behind(keep, first, laid, below), some[0][0] if some else laid)
        for value in NO_NUMBERS:
            self.refuses(value, first_behind, 2, 7, 40, value)


class IsStore(Case):
    def test_stores(self):
        for store in (STORE, empty_store(), (5, 0, STORE[2]), (5, 10 ** 9, STORE[2][1:]), (5, 3, ())):
            self.assertIs(is_store(2, store), True)
            self.assertIs(is_store(2, lists(store)), True)
        self.assertIs(is_store(3, STORE), False)

    def test_no_stores(self):
        spans = STORE[2]
        for value in ODD + (
            (5, 12), (5, 12, spans, ()), (5, None, spans), (5, True, spans), (5, -1, spans), (5, "12", spans),
            (0, 12, ()), (0, False, ()), (True, 1, ((0, 1, 1, 1, 1),)), (-1, None, ()), (None, None, ()),
            (1, None, ((0, 1, 1, 1, 1),)), (6, 12, spans), (4, 12, spans), (5, 12, spans[:2]), (5, 12, spans[::-1]), (5, 12, None), (5, 12, (None,)),
            (5, 12, "abc"), (5, 12, ((0, 2, 3, -2, 5), (2, 2, 6, 3, 3), (4, 1, 8, 8, 9))), (5, None, ()),
            (5, 12, ((0, 2), (2, 2), (4, 1))), (5, 12, ((0, 4, 9, -2, 5), (4, 1, 8, 8, 8))),
        ):
            self.assertIs(is_store(2, value), False, value)


class Bounds(Case):
    def test_most_many(self):
        for keep in KEEPS:
            most = {}
            for laid in range(1, 90):
                for first in range(laid):
                    for start, many in shape(keep, first, laid):
                        for row in range(start, start + many):
                            age = laid - 1 - row
                            most[age] = max(most.get(age, 0), many)
            for age in range(45):
                self.same(most_many(keep, age), most[age])
                self.assertLessEqual(most[age], 1 + age // (keep - 1))

    def test_most_spans(self):
        for keep in KEEPS:
            most = 0
            for rows in range(200):
                most = max(most, len(shape(keep, 0, rows)))
                self.same(most_spans(keep, rows), most)

    def test_refused(self):
        for value in NO_NUMBERS:
            self.refuses(value, most_many, 2, value)
            self.refuses(value, most_spans, 2, value)

    def test_far(self):
        self.same(most_many(2, 10 ** 6), 2 ** 19)
        self.same(most_many(8, 10 ** 6), 2 ** 17)
        self.same([most_many(2, age) for age in (2 ** 19 - 2, 2 ** 19 - 1)], [2 ** 18, 2 ** 19])
        self.same(most_spans(2, 10 ** 6), 2 * 18 + 1)
        self.same(most_spans(8, 10 ** 6), 8 * 16 + 7)
        self.same([most_spans(keep, 0) for keep in range(2, 9)], [0] * 7)

    def test_all_spans_ever(self):
        chance = random.Random(7)
        for keep in KEEPS:
            store, ever = empty_store(), []
            for stamp in range(60):
                store = lay(store, keep, stamp, chance.randrange(9))
                if chance.randrange(9) == 0:
                    store = let_go(store, chance.randrange(stamp + 2))
                ever += [span for span in store[2] if span not in ever]
            self.assertIs(are_nested(ever), True)
            self.same(tuples(ever), tuple(ever))


class Refusing(Case):
    def test_kept_itself(self):
        value = [[0, 3]]
        with self.assertRaises(Refused) as caught:
            lay_shape(3, value, 2)
        self.assertIs(caught.exception.at, value)
