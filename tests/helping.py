"""What the tests share."""

import unittest

from farstory import errors
from farstory.logs import check_logs

# Values of all sorts; each test passes those that its function must not take.
ODD = (
    None, True, False, "", "a", "free", "note", (), [], (0,), [1], ((),), [[[]]], (None, None), ("", ""),
    (0, 0), [1, 1, 1], (1, 1, 1, 1), (1, 3, 1, 1, 1), (0, True, 0, 0, 0), -1, 256 ** 201, "A" * 5000,
    errors.FarError(), errors.Refused(0), errors.NoRow(1),
)
NO_INTEGERS = tuple(value for value in ODD if not isinstance(value, int) or isinstance(value, bool))
NO_NUMBERS = NO_INTEGERS + (-1, -256 ** 201)
NO_SEQUENCES = tuple(value for value in ODD if not isinstance(value, (list, tuple)))


def lists(value):
    """The same with lists for tuples, also within."""
    if isinstance(value, (list, tuple)):
        return [lists(part) for part in value]
    return value


def tuples(value):
    """The same with tuples for lists, also within."""
    if isinstance(value, (list, tuple)):
        return tuple(tuples(part) for part in value)
    return value


def nested(depth):
    """So many sequences one within another."""
    value = ()
    for _ in range(depth - 1):
        value = (value,)
    return value


def are_logs(setup, logs):
    try:
        check_logs(setup, logs)
    except errors.BadLog:
        return False
    return True


class Case(unittest.TestCase):
    maxDiff = 2000

    def same(self, found, wanted):
        """Equal to the letter: a bool is no integer, a list is no tuple."""
        self.assertEqual(found, wanted)
        self.assertEqual(repr(found), repr(wanted))

    def fails(self, error, kept, function, *args, **named):
        """The call raises just this error, which keeps just this thing."""
        with self.assertRaises((ValueError, KeyError)) as caught:
            function(*args, **named)
        self.assertIs(caught.exception.__class__, error, args)
        (found,) = vars(caught.exception).values()
        self.assertEqual(found.__class__, kept.__class__, args)
        if isinstance(kept, errors.FarError) or isinstance(kept, KeyError):
            self.assertIs(found, kept)
        else:
            self.assertEqual(found, kept, args)

    def refuses(self, kept, function, *args, **named):
        self.fails(errors.Refused, kept, function, *args, **named)
