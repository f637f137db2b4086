"""What any value is: integers, numbers, sequences, octets."""

from farstory.errors import BadOctets, Refused


def is_integer(value):
    return isinstance(value, int) and not isinstance(value, bool)


def is_number(value):
    return is_integer(value) and value >= 0


def is_sequence(value):
    return isinstance(value, (list, tuple))


def is_of_parts(value, many):
    """Whether any value is a sequence of just so many parts."""
    return is_sequence(value) and len(value) == many


def need_number(value):
    if not is_number(value):
        raise Refused(value)


def need_integer(value):
    if not is_integer(value):
        raise Refused(value)


def need_octets(value):
    """The octets as a tuple; BadOctets tells where any other value is none."""
    if not is_sequence(value):
        raise BadOctets(-1)
    for at, octet in enumerate(value):
        if not is_number(octet) or octet > 255:
            raise BadOctets(at)
    return tuple(value)
