"""Stories: what can have been, by all that logs tell."""

from farstory.errors import Quarrel, Refused
from farstory.logs import check_logs, joined_rows, last_tick
from farstory.probe import Probe
from farstory.setups import check_setup
from farstory.spans import is_reading
from farstory.words import is_integer, is_number, is_of_parts, is_sequence


def need_now(logs, now):
    """Refuses any value that is no tick, or one ahead of the last row of checked logs."""
    if not is_integer(now) or now < last_tick(logs):
        raise Refused(now)


def are_takings(many, value):
    """Whether any value is so many stamps that do not fall, `None` for each behind some place."""
    if not is_of_parts(value, many):
        return False
    stamps = [stamp for stamp in value if stamp is not None]
    if not all([is_number(stamp) for stamp in stamps]) or stamps != sorted(stamps):
        return False
    return all([stamp is None for stamp in value[len(stamps):]])


def is_laid(value):
    """Whether any value is (stamp, value) of a row."""
    return is_of_parts(value, 2) and is_number(value[0]) and is_reading(value[1])


def are_laid(value):
    """Whether any value is a sequence of (stamp, value), stamps ascending."""
    if not is_sequence(value) or not all(is_laid(row) for row in value):
        return False
    return all([one[0] < other[0] for one, other in zip(value, value[1:])])


def is_story(kinds, letters, value):
    """Whether any value is a story of so many letters in its form."""
    if not is_of_parts(value, 3) or not is_integer(value[0]) or not are_takings(len(letters), value[1]):
        return False
    return is_of_parts(value[2], len(kinds)) and all([are_laid(rows) for rows in value[2]])


def is_on_way(way, sent, tick):
    """Whether what was sent at a tick can be there at the other one."""
    return way[0] <= tick - sent <= way[1]


def ways_hold(setup, parts, now, story):
    """Whether all hearings, and the taking of all letters, come at ticks of their ways."""
    _, down, up = setup
    frames, hearings, letters = parts
    offset, takings, _ = story
    if not all([is_on_way(down, frames[place][1] + offset, tick) for place, tick in hearings]):
        return False
    for letter, stamp in zip(letters, takings):
        if stamp is not None:
            tick = stamp + offset
            if tick > now or not any([is_on_way(up, sent, tick) for sent in letter[2]]):
                return False
    return True


def deeds_of(parts, story):
    """All that is done aboard, in its order: (stamp, turn, what), turns as the probe's."""
    frames, _, letters = parts
    _, takings, rows = story
    turn = len(rows)
    deeds = [(frame[1], turn + 1, frame) for frame in frames]
    for letter, stamp in zip(letters, takings):
        if stamp is not None:
            deeds.append((stamp, turn, letter[:2]))
    for kind, laid in enumerate(rows):
        deeds.extend([(stamp, kind, value) for stamp, value in laid])
    return sorted(deeds, key=lambda deed: (deed[0], deed[1]))


def has_told(probe, frame):
    """Whether all that a frame tells is so aboard."""
    if probe.taken != frame[2] or probe.marks() != frame[3]:
        return False
    return all([span in probe.stores[kind][2] for kind, span in frame[4]])


def is_led(probe, deeds):
    """Leads the probe through the deeds; whether it can do them all, and has what frames tell."""
    turn = len(probe.stores)
    try:
        for stamp, place, what in deeds:
            if place < turn:
                probe.lay(place, stamp, what)
            elif place == turn:
                if not probe.take(stamp, what):
                    return False
            elif not has_told(probe, what):
                return False
    except Refused:
        return False
    return True


def rows_end(probe, stamp):
    """Whether no row lies behind a stamp, and the next one of each kind can still come behind it."""
    for kind, store in enumerate(probe.stores):
        if store[1] is not None and store[1] > stamp or probe.due(kind) <= stamp:
            return False
    return True


def tells_all_so(setup, parts, now, story):
    """Whether a story in its form is one that holds."""
    frames = parts[0]
    if any([one[1] >= other[1] for one, other in zip(frames, frames[1:])]):
        return False
    if not ways_hold(setup, parts, now, story):
        return False
    probe = Probe(setup)
    return is_led(probe, deeds_of(parts, story)) and rows_end(probe, now - story[0])


def holds(setup, logs, now, value):
    """Whether any value is a story of checked logs that holds at a tick."""
    try:
        parts = joined_rows(logs)
    except Quarrel:
        return False
    return is_story(setup[0], parts[2], value) and tells_all_so(setup, parts, now, value)


def story_holds(setup, logs, now, value):
    """Whether any value is a story of the logs that holds at a tick."""
    checked = check_setup(setup)
    rows = check_logs(checked, logs)
    need_now(rows, now)
    return holds(checked, rows, now, value)
