"""Things as octets, and back again."""

from farstory.errors import BadRow, Broken, Refused
from farstory.reader import Reader
from farstory.signs import BELOW, MOST_NESTED, MOST_OCTETS, MOST_PARTS, NOTHING, NUMBER, SEQUENCE, SIGNS, TEXT
from farstory.words import is_integer, is_sequence, need_number, need_octets


def is_text(value):
    if not isinstance(value, str) or len(value) > MOST_PARTS:
        return False
    return all(sign in SIGNS for sign in value)


def figures(number, many):
    """A number as so many octets, the greatest part first, as a list."""
    return [(number >> (8 * place)) & 255 for place in reversed(range(many))]


def octets_needed(number):
    return (number.bit_length() + 7) // 8


def unsigned(value):
    """The number that is told for an integer."""
    return value if value >= 0 else -1 - value


def is_thing(value, nested):
    """Whether any value is a thing of at most so many sequences one within another."""
    if is_sequence(value):
        return nested > 0 and len(value) <= MOST_PARTS and all(is_thing(part, nested - 1) for part in value)
    if is_integer(value):
        return octets_needed(unsigned(value)) <= MOST_OCTETS
    return value is None or is_text(value)


def is_value(value):
    """Whether any value has a form."""
    return is_thing(value, MOST_NESTED)


def is_row(value):
    """Whether any value is a row as in a book."""
    return is_sequence(value) and len(value) > 0 and is_text(value[0]) and is_value(value)


def told(number):
    """How many octets a number needs, and these."""
    many = octets_needed(number)
    return [many, *figures(number, many)]


def form(value):
    """The octets of a thing, as a list."""
    if value is None:
        return [NOTHING]
    if is_integer(value):
        return [NUMBER if value >= 0 else BELOW, *told(unsigned(value))]
    if isinstance(value, str):
        return [TEXT, *told(len(value)), *[SIGNS.index(sign) for sign in value]]
    octets = [SEQUENCE, *told(len(value))]
    for part in value:
        octets.extend(form(part))
    return octets


def write_value(value):
    """The form of a thing; Refused for any other value."""
    if not is_value(value):
        raise Refused(value)
    return tuple(form(value))


def value_length(value):
    """How many octets the form has; Refused for any value that is no thing."""
    return len(write_value(value))


def write_row(row):
    """The form of a row; BadRow tells which part is none."""
    if not is_sequence(row) or not 1 <= len(row) <= MOST_PARTS:
        raise BadRow(-1)
    for at, part in enumerate(row):
        if not is_thing(part, MOST_NESTED - 1) or (at == 0 and not is_text(part)):
            raise BadRow(at)
    return tuple(form(row))


def feed(reader, octets, at):
    """Lets the reader take octets from a place on, to its end or theirs; the place behind."""
    place = at
    while not reader.whole and place < len(octets):
        least, most = reader.next_octets()
        if not least <= octets[place] <= most:
            raise Broken(place)
        reader.take(octets[place])
        place += 1
    return place


def read_form(octets, at, of_row):
    """(what the form tells that begins at a place, the place behind it)."""
    need_number(at)
    reader = Reader(of_row)
    behind = feed(reader, octets, at)
    if not reader.whole:
        raise Broken(len(octets))
    return reader.thing, behind


def read_value(octets, at):
    """(the thing whose form begins at this place, the place behind it)."""
    return read_form(need_octets(octets), at, False)


def read_row(octets, at):
    """(the row whose form begins at this place, the place behind it)."""
    return read_form(need_octets(octets), at, True)


def whole_value(octets):
    """The thing of which these octets are the form."""
    value, behind = read_value(octets, 0)
    if behind < len(octets):
        raise Broken(behind)
    return value


def rows_of(octets):
    """(the whole rows, the place behind them, the reader of what hangs there)."""
    rows, behind = [], 0
    reader = Reader(True)
    place = feed(reader, octets, behind)
    while reader.whole:
        rows.append(reader.thing)
        behind = place
        reader = Reader(True)
        place = feed(reader, octets, behind)
    return rows, behind, reader


def read_rows(octets):
    """(the rows that stand whole from the beginning on, the place behind them)."""
    rows, behind, _ = rows_of(need_octets(octets))
    return tuple(rows), behind


def healing(octets):
    """The fewest octets, of these the least, that make whole the row that hangs at the end."""
    _, behind, reader = rows_of(need_octets(octets))
    added = []
    if behind == len(octets):
        return ()
    # Wherever a choice is left, the least octet also leaves the fewest to come.
    while not reader.whole:
        least, _ = reader.next_octets()
        reader.take(least)
        added.append(least)
    return tuple(added)
