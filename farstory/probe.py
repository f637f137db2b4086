"""The probe: it lays rows, takes letters in their order, and sends frames."""

from farstory.chains import first_steps
from farstory.errors import Refused
from farstory.setups import MOST_CARGO, check_letter, check_setup, is_kind_of, need_kind
from farstory.shapes import first_of
from farstory.stores import empty_store, lay, let_go
from farstory.words import is_number, is_of_parts, is_sequence


class Probe:
    """What is aboard, and what may be done next."""

    def __init__(self, setup):
        self.setup = check_setup(setup)
        self.taken = 0
        self.number = 0
        self.stores = tuple([empty_store() for _ in self.setup[0]])
        self.notes = ()
        # The stamp of the last deed and its turn there: at one stamp rows have the turn of their kind,
        # letters the one behind all kinds, and a frame the one behind letters.
        self.present = (0, -1)

    def due(self, kind):
        """The stamp at which the next row of the kind is laid at the latest."""
        need_kind(self.setup[0], kind)
        gap, pause, _ = self.setup[0][kind]
        return first_steps(gap, pause, self.stores[kind][1])[1]

    def marks(self):
        """By kind (how many rows were laid, the first row aboard, the stamp of the last row)."""
        return tuple([(laid, first_of(spans, laid), last) for laid, last, spans in self.stores])

    def lay(self, kind, stamp, value):
        """Lays a row; its number."""
        need_kind(self.setup[0], kind)
        self.need_stamp(stamp, kind)
        gap, pause, keep = self.setup[0][kind]
        store = self.stores[kind]
        if stamp < first_steps(gap, pause, store[1])[0]:
            raise Refused(stamp)
        self.put(kind, lay(store, keep, stamp, value))
        self.present = (stamp, kind)
        return store[0]

    def take(self, stamp, letter):
        """A letter comes; whether it is taken."""
        turn = len(self.stores)
        self.need_stamp(stamp, turn)
        number, deed = check_letter(self.setup, letter)
        self.present = (stamp, turn)
        if number != self.taken + 1:
            return False
        self.taken = number
        if deed[0] == "free":
            self.put(deed[1], let_go(self.stores[deed[1]], deed[2]))
        else:
            self.notes = (*self.notes, deed[1])
        return True

    def frame(self, stamp, places):
        """Sends the next frame, with the spans at these places; it."""
        turn = len(self.stores) + 1
        self.need_stamp(stamp, turn)
        if not self.are_places(places):
            raise Refused(places)
        cargo = tuple([(kind, self.stores[kind][2][place]) for kind, place in places])
        number = self.number
        self.number += 1
        self.present = (stamp, turn)
        return number, stamp, self.taken, self.marks(), cargo

    def put(self, kind, store):
        self.stores = (*self.stores[:kind], store, *self.stores[kind + 1:])

    def need_stamp(self, stamp, turn):
        """Refuses a stamp that is past, or at which it is not this turn, or by which a row would be left out."""
        if not is_number(stamp) or (stamp, turn) < self.present:
            raise Refused(stamp)
        # At one stamp only letters come one behind another.
        if (stamp, turn) == self.present and turn != len(self.stores):
            raise Refused(stamp)
        if any([(self.due(kind), kind) < (stamp, turn) for kind in range(len(self.stores))]):
            raise Refused(stamp)

    def are_places(self, value):
        """Whether any value is a sequence of (kind, place) of spans aboard, not too many."""
        if not is_sequence(value) or len(value) > MOST_CARGO:
            return False
        return all([self.is_place(place) for place in value])

    def is_place(self, value):
        if not is_of_parts(value, 2) or not is_kind_of(self.setup[0], value[0]):
            return False
        return is_number(value[1]) and value[1] < len(self.stores[value[0]][2])
