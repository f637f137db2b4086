"""Setups of probes; the deeds, letters and frames of a setup."""

from farstory.chains import are_steps
from farstory.errors import BadFrame, BadSetup, NoClass, Refused
from farstory.shapes import is_keep, shape
from farstory.spans import is_span
from farstory.words import is_number, is_of_parts, is_sequence

MOST_KINDS = 6
MOST_TICKS = 10000
MOST_LAID = 100000
MOST_NOTES = 1000
MOST_CARGO = 100


def is_kind(value):
    return is_of_parts(value, 3) and are_steps(value[0], value[1]) and is_keep(value[2])


def are_kinds(value):
    return is_sequence(value) and 1 <= len(value) <= MOST_KINDS and all(is_kind(kind) for kind in value)


def is_way(value):
    """Whether any value is the least and the greatest number of ticks that things are on the way."""
    if not is_of_parts(value, 2) or not is_number(value[0]) or not is_number(value[1]):
        return False
    return value[0] <= value[1] <= MOST_TICKS


def check_setup(value):
    """The setup as tuples; BadSetup tells which part is none."""
    if not is_of_parts(value, 3):
        raise BadSetup(-1)
    kinds, down, up = value
    if not are_kinds(kinds):
        raise BadSetup(0)
    if not is_way(down):
        raise BadSetup(1)
    if not is_way(up):
        raise BadSetup(2)
    return tuple([tuple(kind) for kind in kinds]), tuple(down), tuple(up)


def is_kind_of(kinds, value):
    """Whether any value is the number of one of these kinds."""
    return is_number(value) and value < len(kinds)


def need_kind(kinds, value):
    if not is_kind_of(kinds, value):
        raise NoClass(value)


def is_deed(kinds, value):
    if is_of_parts(value, 2):
        return value[0] == "note" and is_number(value[1]) and value[1] < MOST_NOTES
    if not is_of_parts(value, 3) or value[0] != "free":
        return False
    return is_kind_of(kinds, value[1]) and is_number(value[2]) and value[2] <= MOST_LAID


def check_deed(setup, value):
    """The deed as a tuple; Refused for any value that is none."""
    kinds = check_setup(setup)[0]
    if not is_deed(kinds, value):
        raise Refused(value)
    return tuple(value)


def check_letter(setup, value):
    """The letter as tuples; Refused for any value that is none."""
    kinds = check_setup(setup)[0]
    if not is_of_parts(value, 2) or not is_number(value[0]) or value[0] < 1 or not is_deed(kinds, value[1]):
        raise Refused(value)
    return value[0], tuple(value[1])


def is_mark(value):
    """Whether any value can tell of a kind how many rows were laid, the first one aboard, the last one's stamp."""
    if not is_of_parts(value, 3):
        return False
    laid, first, last = value
    if not is_number(laid) or laid > MOST_LAID or not is_number(first) or first > laid:
        return False
    return last is None if laid == 0 else is_number(last)


def are_marks(kinds, value):
    return is_of_parts(value, len(kinds)) and all(is_mark(mark) for mark in value)


def shapes_of(kinds, marks):
    """By kind the shape that its marks tell, as a list."""
    return [shape(kind[2], mark[1], mark[0]) for kind, mark in zip(kinds, marks)]


def is_load(shapes, value):
    """Whether any value is (kind, span), the span standing in the kind's shape."""
    if not is_of_parts(value, 2) or not is_number(value[0]) or value[0] >= len(shapes):
        return False
    return is_span(value[1]) and tuple(value[1][:2]) in shapes[value[0]]


def is_cargo(kinds, marks, value):
    if not is_sequence(value) or len(value) > MOST_CARGO:
        return False
    shapes = shapes_of(kinds, marks)
    return all([is_load(shapes, load) for load in value])


def check_frame(setup, value):
    """The frame as tuples; BadFrame tells which part is none."""
    kinds = check_setup(setup)[0]
    if not is_of_parts(value, 5):
        raise BadFrame(-1)
    for at in range(3):
        if not is_number(value[at]):
            raise BadFrame(at)
    number, stamp, taken, marks, cargo = value
    if not are_marks(kinds, marks):
        raise BadFrame(3)
    if not is_cargo(kinds, marks, cargo):
        raise BadFrame(4)
    loads = tuple([(load[0], tuple(load[1])) for load in cargo])
    return number, stamp, taken, tuple([tuple(mark) for mark in marks]), loads
