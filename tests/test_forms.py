"""Points 5 to 7: octets, things, forms, reading."""

import itertools
import random

from farstory.errors import BadOctets, BadRow, Broken, Refused
from farstory.forms import (
    healing, is_row, is_value, read_row, read_rows, read_value, value_length, whole_value, write_row, write_value)
from farstory.words import need_octets
from tests.helping import NO_NUMBERS, NO_SEQUENCES, Case, lists, nested, tuples

SIGNS = "abcdefghijklmnopqrstuvwxyz0123456789-_ "
GREATEST = 256 ** 200 - 1
THINGS = (
    None, 0, 1, 5, 255, 256, 65535, 65536, 256 ** 2, 256 ** 199, GREATEST, -1, -2, -3, -256, -257, -65536, -65537,
    -256 ** 200, "", "a", "z", "0", "9", "-", "_", " ", "kept 12_3-x", SIGNS, "b" * 255, "b" * 256, " " * 4095,
    (), (None,), ((),), ("a", -1, None), (1, (2, (3, ())), "x"), tuple(range(255)), (None,) * 256, (0,) * 4095,
    nested(40), nested(39), ((), nested(39), ()),
)
NO_THINGS = (
    True, False, GREATEST + 1, -256 ** 200 - 1, "A", "a.", "\n", "a\u00e4", "b" * 4096, (None,) * 4096, nested(41),
    [True], ("a", (None, False)), (1, "E"), Refused(0), (Refused(0),), (GREATEST + 1,), nested(50),
)
ROWS = (("",), ("a", 0), ("kept", (None, 3)), ("x", -1, "b c", ((), ((),))), ("r",) + (1,) * 300, ("q", nested(39)))


def plain_number(number):
    octets = []
    while number > 0:
        octets.insert(0, number % 256)
        number //= 256
    return [len(octets)] + octets


def plain_form(thing):
    """The form of a thing, reckoned anew."""
    if thing is None:
        return [0]
    if isinstance(thing, int):
        return [1] + plain_number(thing) if thing >= 0 else [2] + plain_number(-1 - thing)
    if isinstance(thing, str):
        return [3] + plain_number(len(thing)) + [SIGNS.index(sign) for sign in thing]
    return [4] + plain_number(len(thing)) + [octet for part in thing for octet in plain_form(part)]


class Stop(Exception):
    """(place, whether the octets only end too soon)."""


def plain_octet(octets, at, low, high):
    if at >= len(octets):
        raise Stop(len(octets), True)
    if not low <= octets[at] <= high:
        raise Stop(at, False)
    return octets[at]


def plain_count(octets, at, most, least=0):
    """A number that is told there, of those from least (0 or 1) to most, and the place behind it."""
    sizes = [len(plain_number(number)) - 1 for number in (least, most)]
    size = plain_octet(octets, at, *sizes)
    number = 0
    for k in range(size):
        left = size - k - 1
        high = min(255, (most - number) // 256 ** left)
        number += plain_octet(octets, at + 1 + k, 1 if k == 0 else 0, high) * 256 ** left
    return number, at + 1 + size


def plain_read(octets, at, depth=40, first=0, last=4, row=False):
    kind = plain_octet(octets, at, first, last if depth > 0 else min(last, 3))
    if kind == 0:
        return None, at + 1
    if kind < 3:
        number, behind = plain_count(octets, at + 1, GREATEST)
        return (number if kind == 1 else -1 - number), behind
    many, behind = plain_count(octets, at + 1, 4095, 1 if row else 0)
    parts = []
    for k in range(many):
        if kind == 3:
            parts.append(SIGNS[plain_octet(octets, behind, 0, 38)])
            behind += 1
        elif row and k == 0:
            part, behind = plain_read(octets, behind, depth - 1, 3, 3)
            parts.append(part)
        else:
            part, behind = plain_read(octets, behind, depth - 1)
            parts.append(part)
    return ("".join(parts) if kind == 3 else tuple(parts)), behind


def plain_rows(octets):
    """(rows, behind, whether the rest only ends too soon), or the place of the first bad octet."""
    rows, behind = [], 0
    while behind < len(octets):
        try:
            row, behind = plain_read(octets, behind, 40, 4, 4, True)
        except Stop as stop:
            place, short = stop.args
            return (tuple(rows), behind) if short else place
        rows.append(row)
    return tuple(rows), behind


def are_whole_rows(octets):
    found = plain_rows(octets)
    return isinstance(found, tuple) and found[1] == len(octets)


def plain_thing(octets, at, row=False):
    try:
        if at > len(octets):
            raise Stop(len(octets), True)
        return plain_read(octets, at, 40, *((4, 4, True) if row else ()))
    except Stop as stop:
        return stop.args[0]


def told_by(function, *args):
    try:
        return function(*args)
    except Broken as broken:
        return broken.at


class Octets(Case):
    def test_taken(self):
        for octets in ((), (0,), (255, 0, 7), tuple(range(256)), (9,) * 20000):
            self.same(need_octets(octets), octets)
            self.same(need_octets(list(octets)), octets)

    def test_no_sequence(self):
        for value in NO_SEQUENCES:
            self.fails(BadOctets, -1, need_octets, value)
        self.fails(BadOctets, -1, need_octets, 7)

    def test_first_that_is_none(self):
        for value in NO_NUMBERS + (256, 1000, 256 ** 201):
            for ahead in (0, 1, 5):
                self.fails(BadOctets, ahead, need_octets, [255] * ahead + [value, 3, value])
                self.fails(BadOctets, ahead, need_octets, (0,) * ahead + (value,))

    def test_wherever_octets_are_passed(self):
        for function in (whole_value, read_rows, healing):
            self.fails(BadOctets, -1, function, "0")
            self.fails(BadOctets, 2, function, (9, 9, 256))
            self.fails(BadOctets, 1, function, [0, True])
        for function in (read_value, read_row):
            for at in (0, 5, -1, None):
                self.fails(BadOctets, -1, function, None, at)
                self.fails(BadOctets, 1, function, (0, -1, 0), at)


class Things(Case):
    def test_is_value(self):
        for thing in THINGS:
            self.assertIs(is_value(thing), True, repr(thing)[:50])
            self.assertIs(is_value(lists(thing)), True)
        for value in NO_THINGS:
            self.assertIs(is_value(value), False, repr(value)[:50])
            self.assertIs(is_value(lists(value)), False)

    def test_signs(self):
        for place in range(128):
            self.assertIs(is_value(chr(place)), chr(place) in SIGNS)
        self.assertEqual(len(SIGNS), 39)

    def test_nested(self):
        for depth in range(1, 51):
            self.assertIs(is_value(nested(depth)), depth <= 40)
            self.assertIs(is_value(("", nested(depth), 0)), depth <= 39)

    def test_is_row(self):
        for row in ROWS:
            self.assertIs(is_row(row), True)
            self.assertIs(is_row(lists(row)), True)
        for value in NO_THINGS + (None, 0, "a", (), [], (None,), (0, "a"), (("a",),), ("a", True), ("a", nested(40))):
            self.assertIs(is_row(value), False, repr(value)[:50])
        self.assertIs(is_row(("a",) * 4095), True)
        self.assertIs(is_row(("a",) * 4096), False)
        self.assertIs(is_row(("B", 1)), False)


class Writing(Case):
    def test_forms(self):
        for thing in THINGS:
            wanted = tuple(plain_form(thing))
            self.same(write_value(thing), wanted)
            self.same(write_value(lists(thing)), wanted)
            self.same(value_length(thing), len(wanted))

    def test_told_numbers(self):
        self.same(write_value(0), (1, 0))
        self.same(write_value(-1), (2, 0))
        self.same(write_value(255), (1, 1, 255))
        self.same(write_value(-256), (2, 1, 255))
        self.same(write_value(-257), (2, 2, 1, 0))
        self.same(write_value(GREATEST), (1, 200) + (255,) * 200)
        self.same(write_value(-1 - GREATEST), (2, 200) + (255,) * 200)

    def test_signs_by_place(self):
        self.same(write_value(SIGNS), (3, 1, 39) + tuple(range(39)))

    def test_no_things(self):
        for value in NO_THINGS:
            self.refuses(value, write_value, value)
            self.refuses(value, value_length, value)

    def test_rows(self):
        for row in ROWS + (("a",) * 4095,):
            self.same(write_row(row), tuple(plain_form(row)))
            self.same(write_row(lists(row)), tuple(plain_form(row)))

    def test_no_rows(self):
        for value in NO_SEQUENCES + ((), [], 7, ("a",) * 4096):
            self.fails(BadRow, -1, write_row, value)
        for value in NO_THINGS + (nested(40),):
            self.fails(BadRow, 0, write_row, (value, value))
            self.fails(BadRow, 1, write_row, ["a", value, value])
            self.fails(BadRow, 3, write_row, ("a", 0, "b", value, True))
        for value in (None, 0, (), ("a",), nested(39)):
            self.fails(BadRow, 0, write_row, (value, True))
            self.same(write_row(("a", value))[:5], (4, 1, 2, 3, 1))


class Reading(Case):
    def test_whatever_stands_around(self):
        for thing in THINGS:
            octets = write_value(thing)
            for ahead, behind in (((), ()), ((4, 9, 200), (4,)), ((0,), (255, 255, 0))):
                found = read_value(ahead + octets + behind, len(ahead))
                self.same(found, (tuples(thing), len(ahead + octets)))
                self.same(read_value(list(ahead + octets + behind), len(ahead)), found)
            self.same(whole_value(octets), tuples(thing))
            self.fails(Broken, len(octets), whole_value, octets + (0,))

    def test_rows_around(self):
        for row in ROWS:
            octets = write_row(row)
            self.same(read_row((7, 7) + octets + (9,), 2), (row, 2 + len(octets)))
            self.same(read_value(octets, 0), (row, len(octets)))

    def test_no_place(self):
        for value in NO_NUMBERS:
            self.refuses(value, read_value, (0, 0), value)
            self.refuses(value, read_row, (4, 1, 1, 3, 0), value)

    def test_behind_them_all(self):
        for function in (read_value, read_row):
            for at in (3, 4, 10 ** 9):
                self.fails(Broken, 3, function, (0, 0, 0), at)
            self.fails(Broken, 0, function, (), 0)
        self.fails(Broken, 0, whole_value, ())

    def test_all_short_octets(self):
        some = (0, 1, 2, 3, 4, 5, 15, 16, 38, 39, 200, 201, 255)
        for many in range(5):
            for octets in itertools.product(some, repeat=many):
                self.assertEqual(told_by(read_value, octets, 0), plain_thing(octets, 0), octets)
                self.assertEqual(told_by(read_row, octets, 0), plain_thing(octets, 0, True), octets)

    def test_behind_a_beginning(self):
        beginnings = (
            (1, 199), (1, 200), (2, 200), (3, 2), (3, 2, 15), (4, 2), (4, 2, 15), (4, 1, 2, 3), (4, 1, 1, 4, 1, 1),
            (4, 1) * 39, (4, 1, 1) * 38, (4, 1, 1) * 39, (4, 1, 1) * 40, (4, 1, 1, 3, 1, 1), (4, 1, 2, 3, 0),
            (4, 1, 2, 3, 0) + (4, 1, 1) * 38, (4, 1, 2, 3, 0) + (4, 1, 1) * 39, (4, 1, 2) + (4, 1, 1) * 39 + (0,),
        )
        for beginning in beginnings:
            for octet in range(256):
                for more in ((), (0,), (255,), (1, 0)):
                    octets = beginning + (octet,) + more
                    self.assertEqual(told_by(read_value, octets, 0), plain_thing(octets, 0), octets)
                    self.assertEqual(told_by(read_row, octets, 0), plain_thing(octets, 0, True), octets)

    def test_bent_at_one_octet(self):
        thing = ("ab", -300, (None, ((), 70000), " "), 0)
        octets = write_value(thing)
        for place in range(len(octets)):
            for octet in range(256):
                bent = octets[:place] + (octet,) + octets[place + 1:]
                self.assertEqual(told_by(read_value, bent, 0), plain_thing(bent, 0))
                self.assertEqual(told_by(read_rows, bent), plain_rows(bent))

    def test_no_form_begins_another(self):
        for thing in THINGS:
            octets = write_value(thing)
            for cut in set(list(range(len(octets)))[:300] + [len(octets) - 1]):
                self.fails(Broken, cut, read_value, octets[:cut], 0)

    def test_what_is_read_is_written_so(self):
        chance = random.Random(5)
        read = 0
        for _ in range(30000):
            octets = tuple(chance.choice((0, 1, 1, 2, 3, 4, 7, 255)) for _ in range(chance.randrange(12)))
            found = told_by(read_value, octets, 0)
            self.assertEqual(found, plain_thing(octets, 0))
            if isinstance(found, tuple):
                read += 1
                self.same(write_value(found[0]), octets[:found[1]])
        self.assertGreater(read, 3000)


class BookRows(Case):
    def test_cut_anywhere(self):
        octets, ends = (), [0]
        for row in ROWS:
            octets += write_row(row)
            ends.append(len(octets))
        for cut in range(len(octets) + 1):
            whole = len([end for end in ends if end <= cut]) - 1
            self.same(read_rows(octets[:cut]), (ROWS[:whole], ends[whole]))
            self.assertEqual(healing(octets[:cut]) == (), cut in ends)
        self.same(read_rows(list(octets)), (ROWS, len(octets)))

    def test_broken(self):
        for octets, place in (
            ((0,), 0), ((1, 0), 0), ((4, 0), 1), ((4, 3), 1), ((4, 1, 0), 2), ((4, 1, 1, 0), 3), ((4, 1, 1, 4), 3),
            ((4, 1, 2, 3, 0, 5), 5), ((4, 1, 1, 3, 0, 3), 5), ((4, 1, 1, 3, 1, 1, 39), 6), ((4, 2, 16), 2),
            ((4, 1, 1, 3, 3), 4), ((4, 1, 1, 3, 1, 0), 5), ((4, 1, 1, 3, 0, 4, 1, 1, 3, 0, 9, 4), 10),
        ):
            self.assertEqual(plain_rows(octets), place)
            self.fails(Broken, place, read_rows, octets)
            self.fails(Broken, place, healing, octets)

    def test_all_short_octets(self):
        for many in range(8):
            for octets in itertools.product((0, 1, 3, 4), repeat=many):
                self.assertEqual(told_by(read_rows, octets), plain_rows(octets))

    def test_healing_is_the_fewest_and_least(self):
        row = (4, 1, 2, 3, 1, 1, 5, 4, 1, 1, 2, 1, 3)
        ends = [(4,), (4, 1), (4, 1, 1), row] + [row[:cut] for cut in range(len(row))]
        ends += [(4, 1, 2, 3, 0) + end for end in ((1,), (1, 1), (2, 0), (3,), (3, 1), (4,), (4, 1), (1, 2, 7), (1, 2), (2, 3), (2, 4, 1))]
        for octets in ends:
            healed = healing(octets)
            wanted = next(
                more for many in range(6) for more in itertools.product(range(6), repeat=many)
                if are_whole_rows(octets + more))
            self.same(healed, wanted)

    def test_long_healings(self):
        self.same(healing((4, 2)), (1, 0, 3, 0) + (0,) * 255)
        self.same(healing((4, 2, 3)), (0, 3, 0) + (0,) * 767)
        self.same(healing((4, 1, 255)), (3, 0) + (0,) * 254)
        self.same(healing((4, 1, 1, 3, 2)), (1, 0) + (0,) * 256)
        self.same(healing((4, 1, 2, 3, 0, 1, 200)), (1,) + (0,) * 199)
        self.same(healing((4, 1, 2, 3, 0, 2, 200, 9)), (0,) * 199)
        octets = (4, 1, 2, 3, 0) + (4, 2, 15, 255) * 39
        healed = healing(octets)
        self.assertEqual(healed, (0,) * (39 * 4094 + 1))
        self.assertEqual(read_rows(octets + healed)[1], len(octets + healed))

    def test_healed_is_whole(self):
        chance = random.Random(8)
        healed = 0
        for _ in range(20000):
            octets = (4, 1, chance.randrange(1, 4), 3) + tuple(
                chance.choice((0, 1, 1, 2, 3, 4)) for _ in range(chance.randrange(9)))
            found = plain_rows(octets)
            if isinstance(found, tuple):
                healed += 1
                whole = octets + healing(octets)
                self.assertEqual(read_rows(whole)[1], len(whole))
                self.assertEqual(read_rows(whole)[0][:len(found[0])], found[0])
            else:
                self.fails(Broken, found, healing, octets)
        self.assertGreater(healed, 2000)
