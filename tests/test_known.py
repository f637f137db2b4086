"""Points 51 to 54: what is known."""

import random

from farstory.errors import BadLog, BadSetup, NoClass, NoRow, Quarrel
from farstory.known import both_known, check_known, known_of, lacks, picture, row_known, tells_all, told_to
from farstory.values import known_span, span_quarrel, values_of
from tests.helping import NO_NUMBERS, NO_SEQUENCES, Case, lists
from tests.plain import flights
from tests.test_values import NO_SPANS, all_that_fit, random_spans, rows_of

SETUP = (((1, 3, 2), (2, 2, 4)), (0, 5), (0, 5))
ONE = (((0, 2, 7, 3, 4), (4, 1, 9, 9, 9)), ())
OTHER = (((0, 4, 10, 1, 4), (2, 1, 2, 2, 2)), ())
BOTH = (((0, 2, 7, 3, 4), (0, 4, 10, 1, 4), (2, 1, 2, 2, 2), (4, 1, 9, 9, 9)), ())
CROSSED = ((0, 2, 7, 3, 4), (1, 2, 7, 3, 4))
UNFIT = ((0, 2, 9, 1, 5),)
FRAME = (0, 4, 0, ((2, 0, 3),), ((0, (0, 1, 7, 7, 7)),))
ONE_KIND = (((2, 3, 2),), (1, 2), (1, 1))


def fitting(chance, many):
    """Told spans of some rows, nested or apart, that some values fit, of one choice of values."""
    spans = random_spans(chance, many, 3, 0)
    return tuple(spans) if span_quarrel(spans) is None else fitting(chance, many)


def parts_of(chance, spans):
    return tuple(span for span in spans if chance.randrange(2))


def plain_row(spans, row):
    """Word by word as point 53 has it, values gone through."""
    having = [span for span in spans if row in rows_of(span)]
    if not having:
        return ("untold",)
    rows, values = all_that_fit(spans, 0, 3)
    had = {dict(one)[row] for one in values}
    if len(had) == 1:
        return "value", had.pop()
    least = min(having, key=lambda span: span[1])
    return "within", least[0], least[1]


class Checks(Case):
    def test_ascending_and_once(self):
        value = [[(4, 1, 9, 9, 9), [0, 2, 7, 3, 4], (4, 1, 9, 9, 9)], ()]
        self.same(check_known(SETUP, value), ONE)
        self.same(check_known(lists(SETUP), lists(BOTH)), BOTH)
        self.same(check_known(SETUP, ((), [])), ((), ()))
        # Told spans of any number of rows, not of 1, 2, 4, .. alone.
        self.same(check_known(SETUP, ((), ((5, 3, 6, 1, 3),))), ((), ((5, 3, 6, 1, 3),)))

    def test_refused(self):
        calls = (
            (check_known, ()), (row_known, (None, None)), (picture, (None, None)), (lacks, (None, None)), (told_to, (None,)),
            (both_known, (None,)), (tells_all, (None,)),
        )
        wrong = NO_SEQUENCES + ((), ((),), ((), (), ()), ((), None), (None, ()), ("", ""), ((), "a"), ((0, 1, 1, 1, 1), ()))
        wrong += tuple((ONE[0], (span,)) for span in NO_SPANS)
        for function, more in calls:
            self.fails(BadSetup, -1, function, None, None, *more)
            self.fails(BadSetup, 0, function, ((), (0, 0), (0, 0)), ONE, *more)
            for value in wrong:
                self.refuses(value, function, SETUP, value, *more)
            self.fails(Quarrel, (0, "crossed") + CROSSED, function, SETUP, (CROSSED, UNFIT), *more)
            self.fails(Quarrel, (1, "unfit") + UNFIT, function, SETUP, (ONE[0], UNFIT), *more)
            # Where spans of one kind are none, those of another one are not asked.
            self.refuses((CROSSED, None), function, SETUP, (CROSSED, None), *more)

    def test_second_ones(self):
        for function in (both_known, tells_all):
            self.refuses((None, ()), function, SETUP, ONE, (None, ()))
            self.fails(Quarrel, (1, "unfit") + UNFIT, function, SETUP, ONE, ((), UNFIT))
        # Both of them may be well, and not together.
        self.fails(Quarrel, (0, "crossed") + CROSSED, both_known, SETUP, (CROSSED[:1], ()), (CROSSED[1:], ()))
        self.fails(Quarrel, (1, "unfit", (0, 2, 9, 4, 5)), both_known, SETUP, ((), ((0, 2, 9, 4, 5),)), ((), ((0, 1, 3, 3, 3),)))
        self.same(tells_all(SETUP, (CROSSED[:1], ()), (CROSSED[1:], ())), False)

    def test_kinds_and_rows(self):
        for value in NO_NUMBERS + (2, 3):
            self.fails(NoClass, value, row_known, SETUP, ONE, value, None)
            self.fails(NoClass, value, picture, SETUP, ONE, value, None)
            self.fails(NoClass, value, lacks, SETUP, ONE, value, None)
            self.fails(NoClass, value, told_to, SETUP, ONE, value)
        for value in NO_NUMBERS:
            self.fails(NoRow, value, row_known, SETUP, ONE, 1, value)
            self.refuses(value, picture, SETUP, ONE, 1, value)
            self.refuses(value, lacks, SETUP, ONE, 1, value)


class KnownOf(Case):
    def test_all_cargo_of_all_houses(self):
        later = (1, 9, 0, ((4, 0, 9),), ((0, (2, 1, 1, 1, 1)), (0, (0, 2, 12, 5, 7)), (0, (2, 1, 1, 1, 1))))
        logs = ((("heard", 12, FRAME), ("sent", 12, (1, ("note", 1)))), (("heard", 11, FRAME), ("heard", 16, later)))
        wanted = (((0, 1, 7, 7, 7), (0, 2, 12, 5, 7), (2, 1, 1, 1, 1)),)
        self.same(known_of(ONE_KIND, logs), wanted)
        self.same(known_of(lists(ONE_KIND), lists(logs)), wanted)
        # Also where no frame was heard.
        self.same(known_of(ONE_KIND, ((), ())), ((),))
        self.same(known_of(SETUP, ((),)), ((), ()))

    def test_errors_in_their_order(self):
        self.fails(BadSetup, -1, known_of, None, None)
        self.fails(BadLog, -1, known_of, ONE_KIND, None)
        self.fails(BadLog, (0, 0), known_of, ONE_KIND, ((None,),))
        bad = (1, 9, 0, ((4, 0, 9),), ((0, (0, 2, 11, 5, 6)),))
        unlike = (1, 9, 0, ((4, 0, 9),), ())
        logs = ((("heard", 12, FRAME), ("heard", 12, bad)),)
        self.fails(Quarrel, (0, "unfit", (0, 2, 11, 5, 6)), known_of, ONE_KIND, logs)
        self.fails(Quarrel, ("frames", 1), known_of, ONE_KIND, logs + ((("heard", 12, unlike),),))
        # Frames that no story tells are asked for their cargo all the same.
        odd = ((("heard", 12, (5, 4, 9, ((2, 0, 3),), ((0, (1, 1, 3, 3, 3)),))),),)
        self.same(known_of(ONE_KIND, odd), (((1, 1, 3, 3, 3),),))

    def test_of_flights(self):
        for setup, logs, _, _ in flights(1, 60):
            cargo = [load for log in logs for row in log if row[0] == "heard" for load in row[2][4]]
            wanted = tuple(tuple(sorted({span for at, span in cargo if at == kind})) for kind in range(len(setup[0])))
            self.same(known_of(setup, logs), wanted)
            # Of logs joined it is what is known of each of them.
            parts = [known_of(setup, logs[:1] + ((),) * at + logs[1 + at:2 + at]) for at in range(len(logs) - 1)]
            joined = known_of(setup, logs[:1])
            for part in parts:
                joined = both_known(setup, joined, part)
            self.same(joined, wanted)
            for part in parts:
                self.assertIs(tells_all(setup, wanted, part), True)


class Both(Case):
    def test_example(self):
        self.same(both_known(SETUP, ONE, OTHER), BOTH)
        self.same(both_known(lists(SETUP), lists(OTHER), lists(ONE)), BOTH)
        self.assertIs(tells_all(SETUP, BOTH, ONE), True)
        self.assertIs(tells_all(lists(SETUP), lists(BOTH), lists(OTHER)), True)
        self.assertIs(tells_all(SETUP, ONE, BOTH), False)
        self.assertIs(tells_all(SETUP, ((), ()), ((), ())), True)
        self.assertIs(tells_all(SETUP, ((), ()), ONE), False)

    def test_what_is_told_by_parts(self):
        parts = (((0, 1, 3, 3, 3), (1, 1, 4, 4, 4), (2, 2, 6, 1, 5)), ())
        for span, told in (
            ((0, 2, 7, 3, 4), True), ((0, 2, 7, 2, 5), False), ((0, 4, 13, 1, 5), True), ((0, 3, 8, 1, 4), False),
            ((2, 1, 1, 1, 1), False), ((2, 2, 6, 1, 5), True), ((2, 2, 6, 2, 4), False), ((1, 3, 10, 1, 5), True),
            ((3, 2, 6, 1, 5), False), ((0, 4, 13, 1, 6), False), ((0, 4, 12, 1, 5), False),
        ):
            self.assertIs(tells_all(SETUP, parts, ((span,), ())), told, span)
            self.assertIs(tells_all(SETUP, ((), parts[0]), ((), (span,))), told, span)
            self.assertIs(tells_all(SETUP, parts, (parts[0] + (span,) if told else (span,), ())), told)
            self.assertIs(tells_all(SETUP, ((), parts[0]), ((span,), ())), False)

    def test_whatever_the_order(self):
        chance = random.Random(52)
        for _ in range(150):
            spans, more = fitting(chance, 6), fitting(chance, 5)
            some = [(parts_of(chance, spans), parts_of(chance, more)) for _ in range(3)]
            one, other, third = some
            both = both_known(SETUP, one, other)
            self.same(both, both_known(SETUP, other, one))
            self.same(both_known(SETUP, both, one), both)
            self.same(both_known(SETUP, both, third), both_known(SETUP, one, both_known(SETUP, third, other)))
            self.same([tells_all(SETUP, both, part) for part in (one, other, both)], [True] * 3)
            # Whatever tells all of each tells all of both.
            for whole in ((spans, more), third, both_known(SETUP, one, third)):
                alone = tells_all(SETUP, whole, one) and tells_all(SETUP, whole, other)
                self.same(tells_all(SETUP, whole, both), alone)
                plain = [known_span(told, span[0], span[1]) == span
                         for told, kind in zip(whole, range(2)) for span in one[kind]]
                self.same(tells_all(SETUP, whole, one), all(plain))


class Rows(Case):
    def test_example(self):
        self.same([row_known(SETUP, BOTH, 0, row) for row in range(6)], [
            ("within", 0, 2), ("within", 0, 2), ("value", 2), ("value", 1), ("value", 9), ("untold",)])
        self.same(row_known(lists(SETUP), lists(BOTH), 1, 0), ("untold",))
        self.same(row_known(SETUP, BOTH, 0, 10 ** 9), ("untold",))
        self.same(picture(SETUP, BOTH, 0, 6), ((0, 1, ("within", 0, 2)), (2, 4, ("value",)), (5, 5, ("untold",))))
        self.same(lacks(SETUP, ONE, 0, 6), ((2, 3), (5, 5)))
        self.same([told_to(SETUP, known, kind) for known, kind in ((BOTH, 0), (ONE, 0), (BOTH, 1))], [5, 2, 0])
        self.same(told_to(SETUP, (((1, 9, 9, 1, 1),), ()), 0), 0)

    def test_a_row_that_can_have_two_values_is_not_told(self):
        # Of two rows one has 3 and one 4; of like ones each has the same.
        self.same(row_known(SETUP, (((0, 2, 7, 3, 4),), ()), 0, 1), ("within", 0, 2))
        self.same(row_known(SETUP, (((0, 2, 8, 4, 4),), ()), 0, 1), ("value", 4))
        # The rest of a span is told where just one value is left for it.
        self.same(row_known(SETUP, (((0, 4, 8, 2, 2), (7, 3, -3, -1, -1)), ()), 0, 8), ("value", -1))
        self.same(row_known(SETUP, (((0, 2, 7, 3, 4), (1, 1, 3, 3, 3)), ()), 0, 0), ("value", 4))

    def test_by_force(self):
        chance = random.Random(53)
        for _ in range(200):
            many = chance.randrange(1, 6)
            spans = fitting(chance, many)
            known = ((), spans) if chance.randrange(2) else (spans, ())
            kind = 0 if known[0] else 1
            words = [plain_row(spans, row) for row in range(many + 2)]
            self.same([row_known(SETUP, known, kind, row) for row in range(many + 2)], words)
            self.same(told_to(SETUP, known, kind), [word == ("untold",) for word in words].index(True))
            for laid in range(many + 3):
                self.pictured(known, kind, laid, words)

    def pictured(self, known, kind, laid, words):
        plain = [word[:1] if word[0] == "value" else word for word in words + [("untold",)] * laid][:laid]
        found = picture(SETUP, known, kind, laid)
        self.same([word for low, high, word in found for _ in range(low, high + 1)], plain)
        self.same([row for low, high, _ in found for row in range(low, high + 1)], list(range(laid)))
        for one, other in zip(found, found[1:]):
            self.assertNotEqual(one[2], other[2])
        self.same(lacks(SETUP, known, kind, laid), tuple(
            (low, high) for low, high, word in found if word == ("untold",)))

    def test_far_rows(self):
        known = (((10 ** 9, 1, 4, 4, 4),), ())
        self.same(picture(SETUP, known, 0, 10 ** 9 + 2), (
            (0, 10 ** 9 - 1, ("untold",)), (10 ** 9, 10 ** 9, ("value",)), (10 ** 9 + 1, 10 ** 9 + 1, ("untold",))))
        self.same(lacks(SETUP, known, 0, 10 ** 9 + 1), ((0, 10 ** 9 - 1),))
        self.same(picture(SETUP, known, 0, 0), ())


class Grows(Case):
    def test_with_more_known(self):
        chance = random.Random(54)
        grown = 0
        for _ in range(150):
            many = chance.randrange(2, 7)
            spans = fitting(chance, many)
            one, other = (parts_of(chance, spans), ()), (parts_of(chance, spans), ())
            both = both_known(SETUP, one, other)
            for row in range(many + 1):
                before, after = row_known(SETUP, one, 0, row), row_known(SETUP, both, 0, row)
                if before[0] == "value":
                    self.same(after, before)
                if before[0] == "within":
                    self.assertIn(after[0], ("value", "within"))
                    if after[0] == "within":
                        self.assertTrue(before[1] <= after[1] <= after[1] + after[2] <= before[1] + before[2])
                could, can = ({at for low, high in values_of(known[0], row) for at in (low, high)} for known in (one, both))
                for at in can:
                    self.assertTrue(any(low <= at <= high for low, high in values_of(one[0], row)))
                grown += before != after
            less, more = ({row for low, high in lacks(SETUP, known, 0, many) for row in range(low, high + 1)}
                          for known in (both, one))
            self.assertLessEqual(less, more)
            self.assertGreaterEqual(told_to(SETUP, both, 0), told_to(SETUP, one, 0))
        self.assertGreater(grown, 50)


class Limits(Case):
    def test_sixty_spans_of_each_kind(self):
        setup = (((1, 3, 2),) * 6, (0, 5), (0, 5))
        values = [(7 * row) % 23 for row in range(120)]
        spans = []
        for size in (120, 60, 30, 15, 5, 1):
            for first in range(0, 120, size):
                had = values[first:first + size]
                spans.append((first, size, sum(had), min(had), max(had)))
        known = (tuple(spans[:60]),) * 6
        self.same(both_known(setup, known, known), tuple(tuple(sorted(one)) for one in known))
        self.assertIs(tells_all(setup, known, known), True)
        found = picture(setup, known, 5, 130)
        self.same((found[0][0], found[-1]), (0, (120, 129, ("untold",))))
        self.same([row_known(setup, known, 3, row) for row in (0, 20)], [("value", 0), ("value", values[20])])
        self.same(told_to(setup, known, 2), 120)
