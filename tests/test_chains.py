"""Points 8 to 11: chains."""

import itertools

from farstory.chains import (
    chain_holds, chain_through, check_chain, counts_by, latest_chain, least_chain, split, split_stamps, stamps)
from farstory.errors import Refused
from tests.helping import NO_NUMBERS, ODD, Case, lists

OPEN = (0, None)
FREE = (2, 5, 3, (OPEN, (9, 12), (0, 13)))
NO_CHAINS = ODD + (
    (2, 5, 3), (2, 5, 3, (), ()), (0, 5, 3, ()), (True, 5, 3, ()), (6, 5, 3, ()), (1, 1001, 3, ()), (2, True, 3, ()),
    (-1, 5, 3, ()), ("2", 5, 3, ()), (2, None, 3, ()), (None, 5, 3, ()), (2, 5, -1, ()), (2, 5, True, ()),
    (2, 5, "3", ()), (2, 5, (), ()), (2, 5, 3, None), (2, 5, 3, 0), (2, 5, 3, "ab"), (2, 5, 3, (0, None)),
    (2, 5, 3, ((0,),)), (2, 5, 3, ((0, 1, 2),)), (2, 5, 3, ((None, 1),)), (2, 5, 3, ((0, -1),)),
    (2, 5, 3, ((-1, None),)), (2, 5, 3, ((False, None),)), (2, 5, 3, ((0, True),)), (2, 5, 3, (OPEN, "00")),
    (2, 5, 3, (OPEN,) * 201), (2, 5, 3, (OPEN, None)), Refused((2, 5, 3, ())),
)


def all_stamps(chain):
    """All stamps of a chain, gone through one by one."""
    gap, pause, begin, windows = chain
    found = [()]
    for low, high in windows:
        longer = []
        for ahead in found:
            last = ahead[-1] if ahead else begin
            steps = range(pause + 1) if last is None else range(last + gap, last + pause + 1)
            longer += [ahead + (stamp,) for stamp in steps if low <= stamp and (high is None or stamp <= high)]
        found = longer
    return found


def small_chains():
    windows = (OPEN, (3, None), (0, 4), (2, 5), (5, 6), (4, 4), (6, 3), (0, 0))
    for gap, pause in ((1, 1), (1, 3), (2, 3)):
        for begin in (None, 0, 2):
            for many in range(4):
                some = itertools.product(windows, repeat=many) if many < 3 else itertools.product(
                    windows[:5], repeat=many)
                for chosen in some:
                    yield gap, pause, begin, chosen


SMALL = [(chain, all_stamps(chain)) for chain in small_chains()]


class Checks(Case):
    def test_chains(self):
        for chain in (
            FREE, (1, 1, None, ()), (1, 1000, 0, (OPEN,) * 200), (1000, 1000, 10 ** 6, ((10 ** 6, 10 ** 6),)),
            (2, 3, 0, ((9, 4),)),
        ):
            self.same(check_chain(chain), chain)
            self.same(check_chain(lists(chain)), chain)

    def test_refused_ahead_of_all_else(self):
        for value in NO_CHAINS:
            self.refuses(value, check_chain, value)
            for function in (stamps, least_chain, latest_chain):
                self.refuses(value, function, value)
            for more in (0, None, -1, 10 ** 9):
                self.refuses(value, chain_holds, value, more)
                self.refuses(value, chain_through, value, more, more)
                self.refuses(value, split, value, more)
                self.refuses(value, split_stamps, value, more)

    def test_rows(self):
        for value in NO_NUMBERS + (3, 4):
            self.refuses(value, chain_through, FREE, value, 8)
            self.refuses(value, chain_through, FREE, value, None)
        self.refuses(0, chain_through, (2, 5, 3, ()), 0, 8)
        self.refuses(0, chain_through, (2, 5, 3, ()), 0, None)

    def test_stamps(self):
        for value in NO_NUMBERS:
            self.refuses(value, chain_through, FREE, 2, value)
            self.refuses(value, split, FREE, value)
            self.refuses(value, split, (2, 5, 3, ((0, 1),)), value)
            self.refuses(value, chain_through, (2, 5, 3, ((0, 1),)), 0, value)

    def test_counts(self):
        for value in NO_NUMBERS + (4, 5):
            self.refuses(value, split_stamps, FREE, value)
        self.refuses(1, split_stamps, (2, 5, 3, ()), 1)
        self.refuses(2, split_stamps, (2, 5, 3, ((0, 1),)), 2)

    def test_steps_by(self):
        for gap, pause in ((0, 5), (6, 5), (1, 1001), (True, 5), (1, True), (None, 3), (3, None), ("1", "2"), (-1, 1)):
            for more in ((0, 0, 0), (True, -1, None)):
                self.refuses((gap, pause), counts_by, gap, pause, *more)
        for value in NO_NUMBERS:
            if value is not None:
                self.refuses(value, counts_by, 2, 5, value, -1, -1)
            self.refuses(value, counts_by, 2, 5, 0, value, -1)
            self.refuses(value, counts_by, 2, 5, None, value, 0)
            self.refuses(value, counts_by, 2, 5, 0, 0, value)
            self.refuses(value, counts_by, 2, 5, None, 9, value)


class Holds(Case):
    def test_all(self):
        for chain, found in SMALL:
            found = set(found)
            for value in itertools.product(range(9), repeat=len(chain[3])):
                self.assertIs(chain_holds(chain, value), value in found, (chain, value))

    def test_sequences(self):
        self.assertIs(chain_holds(FREE, (6, 9, 13)), True)
        self.assertIs(chain_holds(lists(FREE), [6, 9, 13]), True)
        for value in ODD + ((6, 9), (6, 9, 13, 15), (6, 9, "13"), (6, None, 13), (6, 9, (13,)), "abc", (-1, 9, 13)):
            self.assertIs(chain_holds(FREE, value), False)
        chain = (1, 3, 0, (OPEN, OPEN))
        self.assertIs(chain_holds(chain, (1, 2)), True)
        for value in ((True, 2), (1, True), (1, None), ("1", 2), (1, 2.5)):
            self.assertIs(chain_holds(chain, value), False)
        self.assertIs(chain_holds((1, 3, None, (OPEN,)), (False,)), False)
        self.assertIs(chain_holds((1, 3, None, (OPEN,)), (-1,)), False)

    def test_no_rows(self):
        for value in ODD:
            self.assertIs(chain_holds((1, 3, 0, ()), value), value in ((), []) and isinstance(value, (list, tuple)))


class Stamps(Case):
    def test_least_and_greatest(self):
        for chain, found in SMALL:
            if not found:
                for function in (stamps, least_chain, latest_chain):
                    self.assertIsNone(function(chain))
                continue
            rows = list(zip(*found))
            least, greatest = tuple(map(min, rows)), tuple(map(max, rows))
            self.same(stamps(chain), tuple(zip(least, greatest)))
            self.same(least_chain(chain), least)
            self.same(latest_chain(chain), greatest)
            self.assertIn(least, found)
            self.assertIn(greatest, found)
            for low, high, row in zip(least, greatest, rows):
                self.assertEqual(sorted(set(row)), list(range(low, high + 1)))

    def test_no_rows(self):
        for chain in ((1, 3, None, ()), (2, 2, 5, [])):
            for function in (stamps, least_chain, latest_chain):
                self.same(function(chain), ())

    def test_through(self):
        for chain, found in SMALL:
            for row in range(len(chain[3])):
                for stamp in range(10):
                    through = [value for value in found if value[row] == stamp]
                    if not through:
                        self.assertIsNone(chain_through(chain, row, stamp))
                        continue
                    least = tuple(map(min, zip(*through)))
                    self.same(chain_through(chain, row, stamp), least)
                    self.assertIn(least, through)

    def test_far_stamps(self):
        self.same(chain_through(FREE, 0, 10 ** 9), None)
        self.same(chain_through((1, 1000, 10 ** 6, (OPEN, OPEN)), 1, 10 ** 6 + 2000), (10 ** 6 + 1000, 10 ** 6 + 2000))
        self.same(chain_through((1, 1000, 10 ** 6, (OPEN, OPEN)), 1, 10 ** 6 + 2001), None)


class Parted(Case):
    def test_split(self):
        for chain, found in SMALL:
            for stamp in range(12):
                counts = sorted({len([one for one in value if one <= stamp]) for value in found})
                if not counts:
                    self.assertIsNone(split(chain, stamp))
                    continue
                self.same(split(chain, stamp), (counts[0], counts[-1]))
                self.assertEqual(counts, list(range(counts[0], counts[-1] + 1)))

    def test_split_stamps(self):
        for chain, found in SMALL:
            many = len(chain[3])
            for count in range(many + 1):
                met = set()
                for value in found:
                    low = value[count - 1] if count > 0 else 0
                    met.update(range(low, value[count] if count < many else 40))
                if not met:
                    self.assertIsNone(split_stamps(chain, count))
                    continue
                self.same(split_stamps(chain, count), (min(met), max(met) if count < many else None))
                self.assertEqual(len(met), max(met) - min(met) + 1)

    def test_edges(self):
        self.same(split((1, 3, None, ()), 0), (0, 0))
        self.same(split_stamps((1, 3, None, ()), 0), (0, None))
        self.same(split_stamps((1, 3, None, ((0, 0),)), 0), None)
        self.same(split_stamps((1, 3, None, ((0, 0),)), 1), (0, None))
        self.same(split_stamps((1, 3, None, (OPEN,)), 0), (0, 2))
        self.same(split_stamps((1, 3, 9, (OPEN, OPEN)), 0), (0, 11))
        self.same(split(FREE, 10 ** 9), (3, 3))


def all_counts(gap, pause, begin, low, stamp):
    """How many rows are up to a stamp in each chain without end."""
    firsts = range(pause + 1) if begin is None else range(begin + gap, begin + pause + 1)
    found, heads = set(), {(first, 0) for first in firsts if first >= low}
    while heads:
        found |= {count for head, count in heads if head > stamp}
        heads = {(head + step, count + 1) for head, count in heads if head <= stamp for step in range(gap, pause + 1)}
    return sorted(found)


class Counts(Case):
    def test_all(self):
        for gap, pause in ((1, 1), (1, 2), (1, 4), (2, 3), (3, 3), (3, 5)):
            for begin in (None, 0, 1, 4):
                for low, stamp in itertools.product(range(11), range(14)):
                    counts = all_counts(gap, pause, begin, low, stamp)
                    found = counts_by(gap, pause, begin, low, stamp)
                    if not counts:
                        self.assertIsNone(found)
                        continue
                    self.same(found, (counts[0], counts[-1]))
                    self.assertEqual(counts, list(range(counts[0], counts[-1] + 1)))

    def test_far(self):
        self.same(counts_by(1, 1000, None, 0, 10 ** 6), (1000, 10 ** 6 + 1))
        self.same(counts_by(1, 1, 0, 0, 10 ** 6), (10 ** 6, 10 ** 6))
        self.same(counts_by(1000, 1000, 10 ** 6, 0, 10 ** 6 + 999), (0, 0))
        self.same(counts_by(1, 1000, 10 ** 6, 10 ** 6 + 1000, 10 ** 6 + 1000), (1, 1))
        self.same(counts_by(1, 1000, 10 ** 6, 10 ** 6 + 1001, 10 ** 6 + 1000), None)


class Limits(Case):
    def test_two_hundred_rows(self):
        chain = (1, 1000, None, (OPEN,) * 200)
        self.same(stamps(chain), tuple((row, 1000 * (row + 1)) for row in range(200)))
        self.same(least_chain(chain), tuple(range(200)))
        self.same(chain_through(chain, 199, 200000)[0], 1000)
        self.same(chain_through(chain, 199, 200001), None)
        self.same(split(chain, 5000), (5, 200))
        self.same(split_stamps(chain, 200), (199, None))
        self.same(split_stamps(chain, 100), (99, 100999))
        self.assertIs(chain_holds(chain, tuple(range(7, 207))), True)

    def test_far_windows(self):
        chain = (3, 1000, 10 ** 6, ((0, 10 ** 6),) + (OPEN,) * 199)
        self.same(stamps(chain), None)
        chain = (3, 1000, 10 ** 6 - 500, (OPEN,) * 199 + ((10 ** 6, 10 ** 6 + 98),))
        self.same(stamps(chain), None)
        chain = (3, 1000, 10 ** 6 - 500, (OPEN,) * 199 + ((10 ** 6, 10 ** 6 + 101),))
        self.same(stamps(chain)[0], (10 ** 6 - 497, 10 ** 6 - 496))
        self.same(latest_chain(chain), tuple(10 ** 6 - 496 + 3 * row for row in range(200)))
