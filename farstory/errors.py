"""The errors of the package; each keeps what it was made with."""


class FarError(ValueError):
    """The base of the errors that are no missing keys."""


class BadOctets(FarError):
    """No octets: what stands at this place is none (-1: no sequence)."""

    def __init__(self, at):
        self.at = at


class BadRow(FarError):
    """No row of a book: this part is none (-1: no sequence of parts)."""

    def __init__(self, at):
        self.at = at


class BadSetup(FarError):
    """No setup: this part is none (-1: not three parts)."""

    def __init__(self, at):
        self.at = at


class BadFrame(FarError):
    """No frame: this part is none (-1: not five parts)."""

    def __init__(self, at):
        self.at = at


class BadLog(FarError):
    """No logs: the row at this (house, place) is none (-1: no logs at all)."""

    def __init__(self, at):
        self.at = at


class BadText(FarError):
    """No text with a meaning, from this place on."""

    def __init__(self, at):
        self.at = at


class Refused(FarError):
    """An argument that cannot be taken."""

    def __init__(self, at):
        self.at = at


class TooGreat(FarError):
    """There are more things than this many to tell."""

    def __init__(self, most):
        self.most = most


class Broken(FarError):
    """From this octet or row on nothing can be read."""

    def __init__(self, at):
        self.at = at


class Quarrel(FarError):
    """What is told cannot all be so; the paper tells why."""

    def __init__(self, paper):
        self.paper = paper


class NoClass(KeyError):
    """There is no kind of this number."""

    def __init__(self, value):
        self.value = value


class NoRow(KeyError):
    """There is no row of this number."""

    def __init__(self, value):
        self.value = value


class NoLetter(KeyError):
    """There is no letter of this number."""

    def __init__(self, value):
        self.value = value
