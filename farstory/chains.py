"""Chains: rows laid one behind another, each in its window of stamps."""

from farstory.errors import Refused
from farstory.words import is_integer, is_number, is_of_parts, is_sequence, need_number

MOST_PAUSE = 1000
MOST_ROWS = 200


def are_steps(gap, pause):
    """Whether any two values are the least and the greatest step of a chain."""
    return is_integer(gap) and is_integer(pause) and 1 <= gap <= pause <= MOST_PAUSE


def is_number_or_none(value):
    return value is None or is_number(value)


def is_window(value):
    return is_of_parts(value, 2) and is_number(value[0]) and is_number_or_none(value[1])


def are_windows(value):
    return is_sequence(value) and len(value) <= MOST_ROWS and all(is_window(window) for window in value)


def is_chain(value):
    if not is_of_parts(value, 4):
        return False
    gap, pause, begin, windows = value
    return are_steps(gap, pause) and is_number_or_none(begin) and are_windows(windows)


def check_chain(value):
    """The chain as tuples; Refused for any value that is none."""
    if not is_chain(value):
        raise Refused(value)
    gap, pause, begin, windows = value
    return gap, pause, begin, tuple([tuple(window) for window in windows])


def first_steps(gap, pause, begin):
    """(least, greatest) stamp of the row behind `begin`, `None` being the start of all stamps."""
    if begin is None:
        return 0, pause
    return begin + gap, begin + pause


def steps_behind(gap, pause, begin, low, rows):
    """(least, greatest) stamp of the last of so many rows behind `begin`, none of them ahead of `low`."""
    least, greatest = first_steps(gap, pause, begin)
    return max(least, low) + (rows - 1) * gap, greatest + (rows - 1) * pause


def within(stretch, window):
    """What a stretch and a window, perhaps without a bound, have in common, perhaps nothing."""
    low, high = window
    greatest = stretch[1] if high is None else min(stretch[1], high)
    return max(stretch[0], low), greatest


def forward(chain):
    """By row (least, greatest) of the stamps that the rows ahead and its window leave it."""
    gap, pause, begin, windows = chain
    stretches = []
    stretch = first_steps(gap, pause, begin)
    for window in windows:
        stretch = within(stretch, window)
        stretches.append(stretch)
        stretch = (stretch[0] + gap, stretch[1] + pause)
    return stretches


def stretches_of(chain):
    """By row (least, greatest) in stamps of a checked chain, as a list; None if there are none."""
    gap, pause, _, windows = chain
    stretches = forward(chain)
    for row in reversed(range(len(windows) - 1)):
        low, high = stretches[row + 1]
        stretches[row] = within(stretches[row], (low - pause, high - gap))
    if any([low > high for low, high in stretches]):
        return None
    return stretches


def stamps(chain):
    """By row (least, greatest) of what it has in stamps of the chain; None if there are none."""
    stretches = stretches_of(check_chain(chain))
    return None if stretches is None else tuple(stretches)


def least_of(stretches):
    return None if stretches is None else tuple([low for low, high in stretches])


def least_chain(chain):
    """By row the least stamp that it has; None if there are none."""
    return least_of(stretches_of(check_chain(chain)))


def latest_chain(chain):
    """By row the greatest stamp that it has; None if there are none."""
    stretches = stretches_of(check_chain(chain))
    return None if stretches is None else tuple([high for low, high in stretches])


def chain_holds(chain, value):
    """Whether any value is stamps of the chain."""
    gap, pause, begin, windows = check_chain(chain)
    if not is_of_parts(value, len(windows)):
        return False
    ahead = begin
    for stamp, (low, high) in zip(value, windows):
        if not is_number(stamp):
            return False
        least, greatest = within(first_steps(gap, pause, ahead), (low, high))
        if not least <= stamp <= greatest:
            return False
        ahead = stamp
    return True


def chain_through(chain, row, stamp):
    """The least stamps of the chain in which this row has this one; None if there are none."""
    gap, pause, begin, windows = check_chain(chain)
    if not is_number(row) or row >= len(windows):
        raise Refused(row)
    need_number(stamp)
    pinned = within((stamp, stamp), windows[row])
    return least_of(stretches_of((gap, pause, begin, (*windows[:row], pinned, *windows[row + 1:]))))


def split(chain, stamp):
    """(fewest, most) rows at this stamp or ahead of it, in stamps of the chain; None if there are none."""
    stretches = stretches_of(check_chain(chain))
    need_number(stamp)
    if stretches is None:
        return None
    fewest = len([high for low, high in stretches if high <= stamp])
    return fewest, len([low for low, high in stretches if low <= stamp])


def parted_at(stretches, count):
    """(least, greatest) stamp, perhaps none, at which, or ahead, just so many rows are; None for no bound."""
    least = stretches[count - 1][0] if count > 0 else 0
    return least, None if count == len(stretches) else stretches[count][1] - 1


def split_stamps(chain, count):
    """(least, greatest) stamp at which, or ahead, just so many rows can be; None if there is none."""
    checked = check_chain(chain)
    if not is_number(count) or count > len(checked[3]):
        raise Refused(count)
    stretches = stretches_of(checked)
    if stretches is None:
        return None
    least, greatest = parted_at(stretches, count)
    return (least, greatest) if greatest is None or least <= greatest else None


def counts_by(gap, pause, begin, low, stamp):
    """(fewest, most) of rows without end, none ahead of `low`, that are at a stamp or ahead of it."""
    if not are_steps(gap, pause):
        raise Refused((gap, pause))
    if not is_number_or_none(begin):
        raise Refused(begin)
    need_number(low)
    need_number(stamp)
    least, greatest = within(first_steps(gap, pause, begin), (low, None))
    if least > greatest:
        return None
    return laid_by(greatest, pause, stamp), laid_by(least, gap, stamp)


def laid_by(first, step, stamp):
    """How many rows, from the first one on by even steps, are at a stamp or ahead of it."""
    return 0 if stamp < first else 1 + (stamp - first) // step
