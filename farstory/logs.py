"""Logs: what the houses sent and heard, and when."""

from farstory.errors import BadFrame, BadLog, Quarrel, Refused
from farstory.setups import check_frame, check_letter, check_setup
from farstory.words import is_number, is_of_parts, is_sequence

MOST_HOUSES = 8
TICKS_END = 1000000000


def is_house_count(value):
    return is_number(value) and 1 <= value <= MOST_HOUSES


def are_houses(value):
    """Whether any value is a sequence of 1 to 8 sequences."""
    return is_sequence(value) and 1 <= len(value) <= MOST_HOUSES and all(is_sequence(log) for log in value)


def checked_row(setup, house, value):
    """A row of this house's log as tuples; None for any value that is none."""
    if not is_of_parts(value, 3) or not is_number(value[1]) or value[1] >= TICKS_END:
        return None
    word, tick, told = value
    try:
        if word == "heard":
            return word, tick, check_frame(setup, told)
        if word == "sent" and house == 0:
            return word, tick, check_letter(setup, told)
    except (BadFrame, Refused):
        return None
    return None


def empty_state():
    """What a log without rows comes to: (its last tick, the most letters told as taken, the last one sent)."""
    return 0, 0, None


def state_behind(state, row):
    """What a log comes to behind one row more; None if it cannot stand there."""
    tick, taken, letter = state
    if row[1] < tick:
        return None
    if row[0] == "heard":
        return row[1], max(taken, row[2][2]), letter
    number, deed = row[2]
    # Letters of this number were sent without any other one between.
    is_unlike = letter is not None and letter[0] == number and letter[1] != deed
    return None if number != taken + 1 or is_unlike else (row[1], taken, row[2])


def state_of(log):
    """What a checked log comes to."""
    state = empty_state()
    for row in log:
        state = state_behind(state, row)
    return state


def next_row(setup, house, log, value):
    """A row as tuples, if it can stand behind a checked log of this house; None for any other value."""
    row = checked_row(setup, house, value)
    if row is None or state_behind(state_of(log), row) is None:
        return None
    return row


def with_row(logs, house, row):
    """The logs with one row more."""
    return (*logs[:house], (*logs[house], row), *logs[house + 1:])


def next_letter(log):
    """(number, deed) that the next letter behind a checked log of house 0 must have, the deed None if it is free."""
    _, taken, letter = state_of(log)
    if letter is not None and letter[0] == taken + 1:
        return letter
    return taken + 1, None


def checked_log(setup, house, log):
    rows = []
    state = empty_state()
    for place, value in enumerate(log):
        row = checked_row(setup, house, value)
        state = None if row is None else state_behind(state, row)
        if state is None:
            raise BadLog((house, place))
        rows.append(row)
    return tuple(rows)


def check_logs(setup, value):
    """The logs as tuples; BadLog tells the (house, place) of the first row that is none."""
    checked = check_setup(setup)
    if not are_houses(value):
        raise BadLog(-1)
    return tuple([checked_log(checked, house, log) for house, log in enumerate(value)])


def last_tick(logs):
    """The greatest tick of all rows, 0 if there are none."""
    return max([row[1] for log in logs for row in log], default=0)


def heard_rows(logs):
    """(tick, frame) of all rows that tell a hearing, by house and place, as a list."""
    return [(row[1], row[2]) for log in logs for row in log if row[0] == "heard"]


def tightest_places(log):
    """(the place of the first hearing of the least tick less stamp, of the greatest); None if there is none."""
    ways = [(row[1] - row[2][1], place) for place, row in enumerate(log) if row[0] == "heard"]
    if not ways:
        return None
    greatest = max([way for way, _ in ways])
    return min(ways)[1], min([place for way, place in ways if way == greatest])


def frames_heard(logs):
    """All frames heard, by number, each once, as a list; Quarrel if two of one number are unlike."""
    found = {}
    for _, frame in heard_rows(logs):
        if found.setdefault(frame[0], frame) != frame:
            raise Quarrel(("frames", frame[0]))
    return [found[number] for number in sorted(found)]


def letters_sent(logs):
    """By number (number, deed, ticks of all copies) of all letters sent, as a list."""
    deeds = {}
    ticks = {}
    for word, tick, told in logs[0]:
        if word == "sent":
            deeds[told[0]] = told[1]
            ticks.setdefault(told[0], []).append(tick)
    return [(number, deeds[number], tuple(ticks[number])) for number in sorted(deeds)]


def joined_rows(logs):
    """(frames, hearings, letters) of checked logs."""
    frames = frames_heard(logs)
    places = {frame[0]: place for place, frame in enumerate(frames)}
    hearings = sorted({(places[frame[0]], tick) for tick, frame in heard_rows(logs)})
    return tuple(frames), tuple(hearings), tuple(letters_sent(logs))


def joined(setup, logs):
    """(all frames heard, (place among these, tick) of all hearings, all letters sent)."""
    return joined_rows(check_logs(setup, logs))


def outstanding(frames, letters):
    """The letter that is out; None if there is none."""
    number = frames[-1][2] + 1 if frames else 1
    for letter in letters:
        if letter[0] == number:
            return number, tuple(letter[1]), tuple(letter[2])
    return None
