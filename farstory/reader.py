"""Reads one form, octet by octet."""

from farstory.signs import BELOW, MOST_NESTED, MOST_OCTETS, MOST_PARTS, NOTHING, NUMBER, SEQUENCE, SIGNS, TEXT


class Reader:
    """Takes the octets of one form; at each step it knows which octets may come next."""

    def __init__(self, of_row):
        self.of_row = of_row
        self.whole = False
        self.thing = None
        # The sequences that are not whole yet, from the outermost on: (parts, how many).
        self.nest = []
        self.wanted = "kind"
        self.kind = NOTHING
        self.needed = 0
        self.taken = 0
        self.number = 0
        self.signs = []

    def next_octets(self):
        """(least, greatest) of the octets that may come next: each one between may, too."""
        if self.wanted == "kind":
            return self.next_kinds()
        if self.wanted == "length":
            return self.next_lengths()
        if self.wanted == "figure":
            return self.next_figures()
        return 0, len(SIGNS) - 1

    def next_kinds(self):
        if self.of_row and not self.nest:
            return SEQUENCE, SEQUENCE
        if self.of_row and len(self.nest) == 1 and not self.nest[0][0]:
            return TEXT, TEXT
        return NOTHING, SEQUENCE if len(self.nest) < MOST_NESTED else TEXT

    def next_lengths(self):
        if self.kind in (NUMBER, BELOW):
            return 0, MOST_OCTETS
        # A row has at least one part.
        least = 1 if self.of_row and not self.nest else 0
        return least, (MOST_PARTS.bit_length() + 7) // 8

    def next_figures(self):
        # A number is told by as few octets as it needs, so the first one is not 0.
        least = 1 if self.taken == 0 else 0
        if self.kind in (NUMBER, BELOW):
            return least, 255
        left = self.needed - self.taken - 1
        return least, min(255, (MOST_PARTS >> (8 * left)) - (self.number << 8))

    def take(self, octet):
        """Takes an octet that may come next."""
        if self.wanted == "kind":
            self.take_kind(octet)
        elif self.wanted == "length":
            self.needed, self.taken, self.number = octet, 0, 0
            self.wanted = "figure"
            self.end_number()
        elif self.wanted == "figure":
            self.taken += 1
            self.number = self.number * 256 + octet
            self.end_number()
        else:
            self.signs.append(SIGNS[octet])
            self.end_text()

    def take_kind(self, octet):
        self.kind = octet
        self.wanted = "length"
        if octet == NOTHING:
            self.end_thing(None)

    def end_number(self):
        if self.taken < self.needed:
            return
        if self.kind == NUMBER:
            self.end_thing(self.number)
        elif self.kind == BELOW:
            self.end_thing(-1 - self.number)
        elif self.kind == TEXT:
            self.wanted = "sign"
            self.signs = []
            self.end_text()
        elif self.number == 0:
            self.end_thing(())
        else:
            self.nest.append(([], self.number))
            self.wanted = "kind"

    def end_text(self):
        if len(self.signs) == self.number:
            self.end_thing("".join(self.signs))

    def end_thing(self, thing):
        """Puts a thing into the sequence around it, and this, if it is whole, into the next one."""
        self.wanted = "kind"
        while self.nest:
            parts, many = self.nest[-1]
            parts.append(thing)
            if len(parts) < many:
                return
            self.nest.pop()
            thing = tuple(parts)
        self.thing = thing
        self.whole = True
