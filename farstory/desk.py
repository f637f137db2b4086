"""A desk: a world led by lines."""

from farstory.counts import laid_now
from farstory.errors import BadText, FarError, NoClass, NoLetter, NoRow, Quarrel, Refused
from farstory.known import known_of, lacks
from farstory.meaning import row_meaning, row_values, told_present
from farstory.world import World

FIGURES = "0123456789"
MOST_FIGURES = 9


def is_figures(word):
    """Whether a word tells a number: at most nine figures, no needless noughts."""
    if not 1 <= len(word) <= MOST_FIGURES or not all([sign in FIGURES for sign in word]):
        return False
    return word[0] != "0" or word == "0"


def is_worth(word):
    """Whether a word tells a value: a number, or one below 0."""
    return is_figures(word) or word[:1] == "-" and word != "-0" and is_figures(word[1:])


def is_pair(word):
    """Whether a word tells a kind and a place."""
    parts = word.split(":")
    return len(parts) == 2 and is_figures(parts[0]) and is_figures(parts[1])


def fits(part, word):
    """Whether a word is what a part of a form asks for."""
    if part == "VALUE":
        return is_worth(word)
    if part == "KIND:PLACE":
        return is_pair(word)
    return is_figures(word) if part.isupper() else word == part


def told_by(part, word):
    """What a word tells that fits a part of a form."""
    if part == "KIND:PLACE":
        kind, place = word.split(":")
        return int(kind), int(place)
    return int(word)


def arguments(form, line):
    """What a line of a form tells, as a list; None if it is not of this form."""
    parts = form.split(" ")
    words = line.split(" ")
    if parts[-1] == "KIND:PLACE":
        # Any number of pairs, perhaps none.
        parts[-1:] = ["KIND:PLACE"] * (len(words) - len(parts) + 1)
    if len(parts) != len(words) or not all([fits(part, word) for part, word in zip(parts, words)]):
        return None
    return [told_by(part, word) for part, word in zip(parts, words) if part.isupper()]


def all_told(parts):
    """Numbers or stretches with blanks between them."""
    return " ".join(parts) if parts else "-"


def stretches_told(stretches):
    return all_told([f"{low}:{high}" for low, high in stretches])


def do_lay(world, kind, stamp, value):
    number = world.lay(kind, stamp, value)
    return f"row {number}"


def do_frame(world, stamp, *places):
    number = world.frame(stamp, places)[0]
    return f"frame {number}"


def do_come(world, stamp, number):
    return "taken" if world.come(stamp, number) else "not taken"


def do_hear(world, house, tick, number):
    world.hear(house, tick, number)
    return "heard"


def do_free(world, tick, kind, below):
    number = world.send(tick, ("free", kind, below))
    return f"letter {number}"


def do_note(world, tick, noted):
    number = world.send(tick, ("note", noted))
    return f"letter {number}"


def do_again(world, tick):
    number = world.again(tick)
    return f"letter {number}"


def tell_whether(world, now):
    try:
        return "deaf" if told_present(world.setup, world.logs, now) is None else "told"
    except Quarrel as quarrel:
        return f"quarrel {quarrel.paper[0]}"


def need_told(world, now):
    """What all houses tell of a tick; refused if no frame was heard."""
    here = told_present(world.setup, world.logs, now)
    if here is None:
        raise Refused(world.logs)
    return here


def tell_offsets(world, now):
    return stretches_told(need_told(world, now).lot)


def tell_letter(world, now):
    word = need_told(world, now).letter_word()
    return "-" if word is None else word


def tell_laid(world, now, kind):
    return all_told([str(many) for many in laid_now(world.setup, world.logs, now, kind)])


def tell_row(world, now, kind, row):
    words = row_meaning(world.setup, world.logs, now, kind, row)[0]
    return " | ".join([all_told([str(part) for part in word]) for word in words])


def tell_value(world, now, kind, row):
    return stretches_told(row_values(world.setup, world.logs, now, kind, row))


def tell_lacks(world, kind, laid):
    return stretches_told(lacks(world.setup, known_of(world.setup, world.logs), kind, laid))


ACTIONS = {
    "lay KIND STAMP VALUE": do_lay,
    "frame STAMP KIND:PLACE": do_frame,
    "come STAMP NUMBER": do_come,
    "hear HOUSE TICK NUMBER": do_hear,
    "send TICK free KIND BELOW": do_free,
    "send TICK note NUMBER": do_note,
    "again TICK": do_again,
    "told NOW": tell_whether,
    "offsets NOW": tell_offsets,
    "letter NOW": tell_letter,
    "laid NOW KIND": tell_laid,
    "row NOW KIND ROW": tell_row,
    "value NOW KIND ROW": tell_value,
    "lacks KIND LAID": tell_lacks,
}


class Desk:
    """Does what lines tell, and says what there is to say."""

    def __init__(self, setup, offset, houses):
        self.world = World(setup, offset, houses)

    def say(self, line):
        """What there is to say to a line."""
        if not isinstance(line, str):
            raise BadText(0)
        for form in ACTIONS:
            told = arguments(form, line)
            if told is not None:
                return self.answer(form, told)
        raise BadText(0)

    def answer(self, form, told):
        """What there is to say to a line of a form; an error changes nothing."""
        action = ACTIONS[form]
        try:
            return action(self.world, *told)
        except (FarError, NoClass, NoLetter, NoRow):
            return "refused"
