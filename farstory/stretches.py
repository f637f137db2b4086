"""Stretches (low, high) of integers: ascending, and between two of them an integer lacks."""


def merged(stretches):
    """The stretches of all integers of any stretches, in whatever order, as few as can be."""
    out = []
    for low, high in sorted(stretches):
        if out and low <= out[-1][1] + 1:
            out[-1] = (out[-1][0], max(out[-1][1], high))
        else:
            out.append((low, high))
    return tuple(out)


def common(one, other):
    """The stretches of all integers that two such rows of stretches have in common."""
    out = []
    at = 0
    for low, high in one:
        while at < len(other) and other[at][1] < low:
            at += 1
        here = at
        while here < len(other) and other[here][0] <= high:
            out.append((max(low, other[here][0]), min(high, other[here][1])))
            here += 1
    return tuple(out)


def has(stretches, value):
    """Whether an integer lies in one of the stretches."""
    return any([low <= value <= high for low, high in stretches])
