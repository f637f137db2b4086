"""A world: a probe, a link, the logs of houses, and what truly was."""

from farstory.errors import BadLog, NoLetter, Refused
from farstory.link import Link
from farstory.logs import is_house_count, next_letter, next_row, with_row
from farstory.meaning import meaning
from farstory.probe import Probe
from farstory.setups import check_deed, check_setup
from farstory.words import is_number


class World:
    """What is done aboard, what is on its way, and what houses sent and heard."""

    def __init__(self, setup, offset, houses):
        self.setup = check_setup(setup)
        self.probe = Probe(self.setup)
        self.link = Link(self.setup, offset)
        if not is_house_count(houses):
            raise Refused(houses)
        self.logs = ((),) * houses
        self.rows = tuple([() for _ in self.setup[0]])
        self.taken = ()

    def lay(self, kind, stamp, value):
        """Lays a row; its number."""
        number = self.probe.lay(kind, stamp, value)
        self.rows = with_row(self.rows, kind, (stamp, value))
        return number

    def frame(self, stamp, places):
        """Sends the next frame, with the spans at these places, down the link; it."""
        frame = self.probe.frame(stamp, places)
        self.link.down(frame)
        return frame

    def come(self, stamp, number):
        """The letter of this number comes to the probe; whether it is taken."""
        is_taken = self.probe.take(stamp, self.link.come(stamp, number))
        if is_taken:
            self.taken = (*self.taken, stamp)
        return is_taken

    def hear(self, house, tick, number):
        """A house hears the frame of this number; it."""
        if not is_number(house) or house >= len(self.logs):
            raise Refused(house)
        frame = self.link.hear(tick, number)
        self.log(house, ("heard", tick, frame))
        return frame

    def letter_now(self):
        """The letter that is out for house 0; None if none is."""
        letter = next_letter(self.logs[0])
        return None if letter[1] is None else letter

    def send(self, tick, deed):
        """Sends a new letter; its number."""
        told = check_deed(self.setup, deed)
        number, sent = next_letter(self.logs[0])
        if sent is not None:
            raise Refused(deed)
        return self.send_copy(tick, (number, told))

    def again(self, tick):
        """Sends one copy more of the letter that is out for house 0; its number."""
        letter = self.letter_now()
        if letter is None:
            raise NoLetter(None)
        return self.send_copy(tick, letter)

    def tells(self, now):
        """What the logs of all houses tell of a tick."""
        return meaning(self.setup, self.logs, now)

    def true_story(self):
        """What was so far: (offset, by letter sent the stamp of taking or None, by kind the rows)."""
        many = len({letter[0] for _, letter in self.link.letters})
        return self.link.offset, self.taken + (None,) * (many - len(self.taken)), self.rows

    def send_copy(self, tick, letter):
        # The log is asked first: what can stand there is never ahead of the last copy on the link.
        self.log(0, ("sent", tick, letter))
        self.link.up(tick, letter)
        return letter[0]

    def log(self, house, value):
        """Puts a row behind a house's log."""
        row = next_row(self.setup, house, self.logs[house], value)
        if row is None:
            raise BadLog((house, len(self.logs[house])))
        self.logs = with_row(self.logs, house, row)
