"""Passes: in how few frames all that is wanted is surely told, whichever few of them are lost."""

from farstory.chains import first_steps, steps_behind
from farstory.errors import Refused
from farstory.offsets import Past
from farstory.setups import check_frame, check_setup, shapes_of
from farstory.shapes import need_keep
from farstory.words import is_number, is_of_parts, is_sequence, need_number

MOST_STAMPS = 200
MOST_ROOM = 100


def size_for(many):
    """The least power of two that is not below a number."""
    size = 1
    while size < many:
        size *= 2
    return size


def laid_when(keep, first, row, many):
    """How many rows are laid when the row first is in a span of so many or more, `first` being the eldest there."""
    need_keep(keep)
    need_number(first)
    if not is_number(row) or row < first:
        raise Refused(row)
    if not is_number(many) or many < 1:
        raise Refused(many)
    size = size_for(many)
    return row - (row - first) % size + keep * (size - 1) + 1


def goes_on(kind, mark, stamp):
    """Whether the last row lies up to a stamp, and the next one can come behind it."""
    gap, pause, _ = kind
    last = mark[2]
    return (last is None or last <= stamp) and first_steps(gap, pause, last)[1] > stamp


def check_last(setup, frame):
    """(kinds, frame), as tuples, of a frame behind which rows go on."""
    kinds = check_setup(setup)[0]
    told = check_frame(setup, frame)
    if not all([goes_on(kind, mark, told[1]) for kind, mark in zip(kinds, told[3])]):
        raise Refused(frame)
    return kinds, told


def names_aboard(kinds, marks):
    shapes = shapes_of(kinds, marks)
    return tuple([(kind, first, many) for kind, some in enumerate(shapes) for first, many in some])


def all_aboard(setup, frame):
    """Ascending the names (kind, first, many) of all spans that the frame tells aboard."""
    kinds, told = check_last(setup, frame)
    return names_aboard(kinds, told[3])


def is_name(value):
    return is_of_parts(value, 3) and all([is_number(part) for part in value])


def is_name_of(names, value):
    """Whether any value is one of these names."""
    return is_name(value) and tuple(value) in names


def life_of(kinds, frame, name):
    """(rows, soonest, latest) until a span aboard becomes a part of a longer one."""
    kind, start, many = name
    gap, pause, keep = kinds[kind]
    laid, first, last = frame[3][kind]
    rows = laid_when(keep, first, start, 2 * many) - laid
    return (rows, *steps_behind(gap, pause, last, frame[1] + 1, rows))


def life(setup, frame, span):
    """(rows, soonest, latest): the rows more, and the stamps of the last one, with which the span is one no more."""
    kinds, told = check_last(setup, frame)
    if not is_name_of(names_aboard(kinds, told[3]), span):
        raise Refused(span)
    return life_of(kinds, told, tuple(span))


def are_ascending(values):
    return all([one < other for one, other in zip(values, values[1:])])


def are_stamps(value, stamp):
    """Whether any value is stamps of a pass behind this one."""
    if not is_sequence(value) or len(value) > MOST_STAMPS or not all([is_number(part) for part in value]):
        return False
    return are_ascending(value) and all([part > stamp for part in value])


def are_names(names, value):
    """Whether any value is a sequence of some of these names, ascending."""
    if not is_sequence(value) or not all([is_name_of(names, part) for part in value]):
        return False
    return are_ascending([tuple(part) for part in value])


class Pass:
    """Later frames, what they have room for, how many of them can be lost, and which spans are wanted."""

    def __init__(self, setup, frame, stamps, room, lost, wanted):
        kinds, told = check_last(setup, frame)
        if not are_stamps(stamps, told[1]):
            raise Refused(stamps)
        if not is_number(room) or not 1 <= room <= MOST_ROOM:
            raise Refused(room)
        if not is_number(lost) or lost >= MOST_STAMPS:
            raise Refused(lost)
        if not are_names({name: True for name in names_aboard(kinds, told[3])}, wanted):
            raise Refused(wanted)
        self.stamps = tuple(stamps)
        self.room = room
        # In how many frames each wanted span must be told.
        self.times = lost + 1
        # By wanted span how many of the first stamps lie where it surely is aboard.
        self.ends = {}
        for name in wanted:
            soonest = life_of(kinds, told, tuple(name))[1]
            self.ends[tuple(name)] = len([stamp for stamp in self.stamps if stamp < soonest])

    def lack(self, many):
        """None if so many frames are enough; else the least number of frames that shows why not."""
        ends = [min(end, many) for end in self.ends.values()]
        for ahead in range(many + 1):
            behind = sum([min(max(end - ahead, 0), self.times) for end in ends])
            if self.room * ahead + behind < self.times * len(ends):
                return ahead
        return None

    def fewest(self):
        """How few frames are enough; None if all are not."""
        low, high = 0, len(self.stamps)
        if self.lack(high) is not None:
            return None
        while low < high:
            middle = (low + high) // 2
            if self.lack(middle) is None:
                high = middle
            else:
                low = middle + 1
        return low

    def plan(self, many):
        """Some plan of so many frames, which are enough."""
        left = {name: self.times for name in self.ends}
        frames = []
        # From the last frame on all spans have the same frames ahead: so those come first that still need the most.
        for place in reversed(range(many)):
            needs = [(-left[name], name) for name, end in self.ends.items() if end > place and left[name] > 0]
            names = sorted([name for _, name in sorted(needs)[:self.room]])
            for name in names:
                left[name] -= 1
            frames.append(tuple(names))
        return tuple(frames[::-1])

    def can_tell(self, place, value):
        """Whether the frame at a place can tell any value: names, ascending, of spans that surely are aboard."""
        if not are_names(self.ends, value) or len(value) > self.room:
            return False
        return all([place < self.ends[tuple(name)] for name in value])

    def holds(self, value):
        """Whether any value is a plan."""
        if not is_sequence(value) or len(value) > len(self.stamps):
            return False
        if not all([self.can_tell(place, names) for place, names in enumerate(value)]):
            return False
        return all([len(self.places(value, name)) >= self.times for name in self.ends])

    def places(self, plan, name):
        """The places of the frames that tell a wanted span."""
        return [place for place, names in enumerate(plan) if name in [tuple(told) for told in names]]

    def told_stamps(self, plan):
        """By wanted span the stamps of the first frame that tells it, and of the one by which it surely is told."""
        found = []
        for name in self.ends:
            places = self.places(plan, name)
            found.append((self.stamps[places[0]], self.stamps[places[self.times - 1]]))
        return found


def lack(setup, frame, stamps, room, lost, wanted, many):
    """None if some plan has so many frames; else the least number of first frames that shows why not."""
    task = Pass(setup, frame, stamps, room, lost, wanted)
    if not is_number(many) or many > len(task.stamps):
        raise Refused(many)
    return task.lack(many)


def fewest_frames(setup, frame, stamps, room, lost, wanted):
    """How few frames some plan has; None if there is no plan."""
    return Pass(setup, frame, stamps, room, lost, wanted).fewest()


def plan_of(setup, frame, stamps, room, lost, wanted):
    """("plan", some plan of fewest frames), or ("lack", number) if there is none."""
    task = Pass(setup, frame, stamps, room, lost, wanted)
    many = task.fewest()
    if many is None:
        return "lack", task.lack(len(task.stamps))
    return "plan", task.plan(many)


def plan_holds(setup, frame, stamps, room, lost, wanted, value):
    """Whether any value is a plan."""
    return Pass(setup, frame, stamps, room, lost, wanted).holds(value)


def known_ticks(setup, logs, stamps, room, lost, wanted, plan):
    """(the least tick at which all that is wanted can be told, the greatest at which it first is); None for nothing."""
    past = Past(setup, logs)
    lot = past.common_lot()
    task = Pass(past.setup, past.last, stamps, room, lost, wanted)
    if not task.holds(plan):
        raise Refused(plan)
    told = task.told_stamps(plan)
    if not told:
        return None
    least, most = past.setup[1]
    soonest = max([first for first, _ in told])
    latest = max([last for _, last in told])
    return soonest + lot[0][0] + least, latest + lot[-1][1] + most
