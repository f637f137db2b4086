"""Points 1 to 3, and the interface: what holds for all functions."""

import copy
import importlib
import inspect

from farstory import errors
from farstory.forms import write_row
from tests.helping import ODD, Case, lists, nested, tuples

CHAIN = (2, 5, 3, ((0, None), (9, 12), (0, 13)))
SPAN = (4, 4, 9, -2, 5)
STORE = (5, 12, ((0, 2, 3, -2, 5), (2, 2, 6, 3, 3), (4, 1, 8, 8, 8)))
SHAPE = ((0, 2), (2, 2), (4, 1))
TOLD = ((0, 1, 1, 1, 1), (0, 4, 10, 1, 5))
SETUP = (((1, 4, 2), (3, 9, 2)), (2, 5), (1, 1))
FRAME = (0, 4, 0, ((3, 0, 4), (1, 0, 3)), ((0, (0, 2, 12, 5, 7)), (1, (0, 1, 40, 40, 40))))
ROW = (4, 1, 2, 3, 1, 1, 0, 4, 1, 1, 0)
THING = ("ab", (1, ()), None)
LETTER = (1, ("free", 0, 2))
FRAME_OCTETS = (
    0, 0, 0, 0, 0, 0, 0, 4, 0, 0, 0, 0, 0, 0, 3, 0, 0, 0, 0, 4, 0, 0, 1, 0, 0, 0, 0, 3, 2, 0, 0, 15, 66, 69, 0, 0, 2, 1, 0, 15,
    66, 104)
LETTER_OCTETS = (0, 0, 0, 1, 0, 0, 0, 0, 2)
LOGS = ((("heard", 7, FRAME), ("sent", 8, LETTER)), (("heard", 8, FRAME),))
LATER = (3, 9, 1, ((5, 2, 8), (2, 0, 9)), ((0, (4, 1, 6, 6, 6)),))
FLIGHT = (LOGS[0] + (("heard", 13, LATER), ("sent", 14, (2, ("note", 7)))), LOGS[1])
STORY = (1, (8, None), (((1, 5), (3, 7), (4, 0), (6, 0), (8, 6), (12, 1)), ((3, 40), (9, 0))))
KNOWN = (((0, 2, 7, 3, 4), (4, 1, 9, 9, 9)), ())
MORE = (((0, 4, 10, 1, 4), (2, 1, 2, 2, 2)), ())
# One kind, a frame heard, and a letter that is out.
ONE = (((2, 3, 2),), (1, 2), (1, 3))
LAST = (0, 9, 0, ((5, 0, 8),), ((0, (4, 1, 7, 7, 7)),))
HEARD = ((("heard", 16, LAST),), (("heard", 17, LAST),))
SENT = (HEARD[0] + (("sent", 20, (1, ("note", 3))),), HEARD[1])
HEARD_NOT = ((), ())
WANTED = ((0, 0, 2), (0, 2, 2), (0, 4, 1))
PASS = (ONE, LAST, (10, 11, 12), 2, 0, WANTED)
PLAN = (((0, 4, 1),), ((0, 0, 2), (0, 2, 2)))
PAPER = (5, 8, 17, (5, 11), (6, 11))
HEAD = (4, 1, 3, 3, 1, 4, 15, 0, 6, 4, 1, 0, 1, 0)
PAGES = (HEAD + ROW, ())
BOOK_ROW = ("log", ONE, 1, HEARD[1])
BOOK_PAGES = (HEAD + write_row(BOOK_ROW) + write_row(HEARD[1][0]), (4, 1))

# By module each function of the interface, its parameters, and arguments of calls that it answers.
CALLS = (
    ("words", "need_octets", ("value",), ((ROW,), ((),))),
    ("forms", "is_value", ("value",), ((THING,), (1,), ((1,),))),
    ("forms", "is_row", ("value",), ((THING,), ((1,),))),
    ("forms", "write_value", ("value",), ((THING,), (-300,))),
    ("forms", "write_row", ("row",), ((THING,),)),
    ("forms", "value_length", ("value",), ((THING,), ("a",))),
    ("forms", "read_value", ("octets", "at"), ((ROW, 0), (ROW, 7))),
    ("forms", "whole_value", ("octets",), ((ROW,),)),
    ("forms", "read_row", ("octets", "at"), (((9,) + ROW, 1),)),
    ("forms", "read_rows", ("octets",), ((ROW + ROW,), (ROW + ROW[:3],))),
    ("forms", "healing", ("octets",), ((ROW,), (ROW[:4],))),
    ("chains", "check_chain", ("value",), ((CHAIN,),)),
    ("chains", "stamps", ("chain",), ((CHAIN,), ((1, 1, 0, ((0, 0),)),))),
    ("chains", "least_chain", ("chain",), ((CHAIN,),)),
    ("chains", "latest_chain", ("chain",), ((CHAIN,),)),
    ("chains", "chain_holds", ("chain", "value"), ((CHAIN, (6, 9, 13)), (CHAIN, (6, 9)))),
    ("chains", "chain_through", ("chain", "row", "stamp"), ((CHAIN, 0, 8), (CHAIN, 0, 4))),
    ("chains", "split", ("chain", "stamp"), ((CHAIN, 10),)),
    ("chains", "split_stamps", ("chain", "count"), ((CHAIN, 1), (CHAIN, 3))),
    ("chains", "counts_by", ("gap", "pause", "begin", "low", "stamp"), ((2, 5, 3, 0, 20), (2, 5, None, 6, 20))),
    ("spans", "check_span", ("value",), ((SPAN,),)),
    ("spans", "behind", ("span",), ((SPAN,),)),
    ("spans", "row_span", ("row", "value"), ((3, -7),)),
    ("spans", "join", ("one", "other"), (((4, 2, 3, -2, 5), (6, 2, 6, 3, 3)),)),
    ("spans", "span_of", ("first", "values"), ((4, (5, -2)),)),
    ("spans", "values_for", ("span",), ((SPAN,),)),
    ("spans", "is_within", ("span", "other"), (((4, 2, 3, -2, 5), SPAN), (SPAN, (4, 2, 3, -2, 5)))),
    ("spans", "is_apart", ("span", "other"), (((4, 2, 3, -2, 5), SPAN), ((4, 2, 3, -2, 5), (6, 1, 0, 0, 0)))),
    ("spans", "are_nested", ("value",), (((SPAN, (4, 2, 3, -2, 5)),), (0,))),
    ("spans", "total", ("spans",), ((((4, 2, 3, -2, 5), (6, 1, 3, 3, 3)),),)),
    ("spans", "rest", ("span", "parts"), ((SPAN, ((5, 1, -2, -2, -2),)),)),
    ("shapes", "counts_of", ("keep", "many"), ((2, 5),)),
    ("shapes", "shape", ("keep", "first", "laid"), ((2, 2, 6),)),
    ("shapes", "is_shape", ("keep", "laid", "value"), ((2, 5, SHAPE), (2, 4, SHAPE))),
    ("shapes", "first_of", ("some", "laid"), ((SHAPE, 5), ((), 5))),
    ("shapes", "lay_shape", ("laid", "some", "keep"), ((5, SHAPE, 2),)),
    ("shapes", "let_go_shape", ("some", "below"), ((SHAPE, 2),)),
    ("shapes", "span_at", ("keep", "first", "laid", "row"), ((2, 2, 6, 3), (2, 2, 6, 1))),
    ("shapes", "first_behind", ("keep", "first", "laid", "below"), ((2, 0, 5, 3),)),
    ("shapes", "most_many", ("keep", "age"), ((2, 6),)),
    ("shapes", "most_spans", ("keep", "rows"), ((2, 9),)),
    ("stores", "empty_store", (), ((),)),
    ("stores", "shape_of", ("store",), ((STORE,),)),
    ("stores", "is_store", ("keep", "value"), ((2, STORE), (3, STORE))),
    ("stores", "lay", ("store", "keep", "stamp", "value"), ((STORE, 2, 13, 0),)),
    ("stores", "let_go", ("store", "below"), ((STORE, 3),)),
    ("stores", "span_with", ("store", "row"), ((STORE, 3),)),
    ("stores", "laid_all", ("keep", "rows"), ((2, ((3, 5), (4, -2), (9, 3), (None, 1))),)),
    ("values", "check_told_spans", ("value",), ((TOLD[::-1],),)),
    ("values", "rest_of", ("spans", "span"), ((TOLD, TOLD[1]),)),
    ("values", "span_quarrel", ("spans",), ((TOLD,), (((0, 2, 9, 1, 5),),))),
    ("values", "values_of", ("spans", "row"), ((TOLD, 2), (TOLD, 9))),
    ("values", "some_values", ("spans", "row", "value"), ((TOLD, 2, 3),)),
    ("values", "some_rows", ("spans", "many"), ((TOLD, 5),)),
    ("values", "values_fit", ("spans", "value"), ((TOLD, ((0, 1), (1, 1), (2, 3), (3, 5))), (TOLD, 0))),
    ("values", "covering", ("spans", "first", "many"), ((TOLD, 0, 4), (TOLD, 0, 3))),
    ("values", "known_span", ("spans", "first", "many"), ((TOLD, 0, 4),)),
    ("setups", "check_setup", ("value",), ((SETUP,),)),
    ("setups", "check_deed", ("setup", "value"), ((SETUP, ("free", 1, 7)),)),
    ("setups", "check_letter", ("setup", "value"), ((SETUP, (3, ("note", 7))),)),
    ("setups", "check_frame", ("setup", "value"), ((SETUP, FRAME),)),
    ("packing", "frame_octets", ("setup", "frame"), ((SETUP, FRAME),)),
    ("packing", "letter_octets", ("setup", "letter"), ((SETUP, LETTER), (SETUP, (9, ("note", 7))))),
    ("packing", "frame_length", ("setup", "frame"), ((SETUP, FRAME),)),
    ("packing", "most_length", ("setup", "many"), ((SETUP, 3),)),
    ("packing", "frame_at", ("setup", "octets", "at"), ((SETUP, (9,) + FRAME_OCTETS, 1),)),
    ("packing", "letter_at", ("setup", "octets", "at"), ((SETUP, LETTER_OCTETS, 0),)),
    ("link", "heard_ticks", ("setup", "offset", "stamp"), ((SETUP, -9, 4),)),
    ("link", "come_stamps", ("setup", "offset", "ticks"), ((SETUP, 100, (90, 120, 108, 109)),)),
    ("link", "echo", ("setup",), ((SETUP,),)),
    ("link", "offsets_heard", ("setup", "hearings"), ((SETUP, ((4, 107), (9, 111))), (SETUP, ((4, 107), (9, 116))))),
    ("link", "offsets_come", ("setup", "stamp", "ticks"), ((SETUP, 9, (108, 110)),)),
    ("logs", "check_logs", ("setup", "value"), ((SETUP, LOGS), (SETUP, ((), ())))),
    ("logs", "last_tick", ("logs",), ((LOGS,), (((), ()),))),
    ("logs", "joined", ("setup", "logs"), ((SETUP, LOGS),)),
    ("logs", "outstanding", ("frames", "letters"), (((FRAME,), ((1, LETTER[1], (8,)),)), ((), ()))),
    ("stories", "story_holds", ("setup", "logs", "now", "value"), ((SETUP, FLIGHT, 14, STORY), (SETUP, FLIGHT, 14, 0))),
    ("offsets", "segments", ("setup", "frames"), ((SETUP, (FRAME, LATER)), (SETUP, ()))),
    ("offsets", "taking_by_count", ("setup", "one", "other", "deed"), (
        (SETUP, FRAME, LATER, ("note", 7)), (SETUP, FRAME, LATER, ("free", 1, 0)))),
    ("offsets", "told_spans", ("frames", "kind"), (((FRAME, LATER), 0),)),
    ("offsets", "bindings", ("setup", "logs"), ((SETUP, FLIGHT), (SETUP, LOGS))),
    ("offsets", "offsets", ("setup", "logs"), ((SETUP, FLIGHT), (SETUP, LOGS))),
    ("offsets", "past_rows", ("setup", "logs", "offset"), ((SETUP, LOGS, 0), (SETUP, LOGS, 1))),
    ("offsets", "past_story", ("setup", "logs", "offset"), ((SETUP, LOGS, 0), (SETUP, LOGS, 1))),
    ("counts", "letter_word", ("setup", "logs", "now"), ((SETUP, LOGS, 8), (SETUP, LOGS, 11))),
    ("counts", "pairs", ("setup", "logs", "now", "kind"), ((SETUP, LOGS, 11, 0),)),
    ("counts", "laid_now", ("setup", "logs", "now", "kind"), ((SETUP, LOGS, 11, 1),)),
    ("aboard", "shapes_at", ("setup", "logs", "tick", "kind"), ((SETUP, LOGS, 11, 0),)),
    ("aboard", "row_words", ("setup", "logs", "now", "kind", "row"), ((SETUP, LOGS, 11, 0, 1),)),
    ("aboard", "row_word", ("setup", "logs", "now", "kind", "row"), ((SETUP, LOGS, 11, 0, 1), (SETUP, LOGS, 11, 0, 99))),
    ("aboard", "word_in", ("setup", "logs", "now", "value", "kind", "row"), ((SETUP, FLIGHT, 14, STORY, 0, 1),)),
    ("known", "check_known", ("setup", "value"), ((SETUP, KNOWN),)),
    ("known", "known_of", ("setup", "logs"), ((SETUP, FLIGHT), (SETUP, LOGS))),
    ("known", "both_known", ("setup", "one", "other"), ((SETUP, KNOWN, MORE),)),
    ("known", "tells_all", ("setup", "known", "other"), ((SETUP, KNOWN, MORE), (SETUP, KNOWN, KNOWN))),
    ("known", "row_known", ("setup", "known", "kind", "row"), ((SETUP, KNOWN, 0, 1), (SETUP, MORE, 0, 2), (SETUP, MORE, 1, 2))),
    ("known", "picture", ("setup", "known", "kind", "laid"), ((SETUP, KNOWN, 0, 9),)),
    ("known", "lacks", ("setup", "known", "kind", "laid"), ((SETUP, KNOWN, 0, 9),)),
    ("known", "told_to", ("setup", "known", "kind"), ((SETUP, KNOWN, 0),)),
    ("ground", "letter_now", ("setup", "logs"), ((SETUP, LOGS), (SETUP, FLIGHT), (SETUP, ((), ())))),
    ("ground", "unknown_below", ("setup", "logs", "now", "kind", "below"), ((SETUP, LOGS, 11, 0, 9),)),
    ("ground", "most_below", ("setup", "logs", "now", "kind"), ((SETUP, LOGS, 11, 0),)),
    ("ground", "may_send", ("setup", "logs", "now", "deed"), (
        (SETUP, LOGS, 11, LETTER[1]), (SETUP, FLIGHT, 15, ("note", 7)), (SETUP, HEARD_NOT, 9, ("free", 0, 0)))),
    ("passes", "laid_when", ("keep", "first", "row", "many"), ((3, 2, 9, 4),)),
    ("passes", "all_aboard", ("setup", "frame"), ((SETUP, FRAME), (ONE, LAST))),
    ("passes", "life", ("setup", "frame", "span"), ((ONE, LAST, (0, 4, 1)),)),
    ("passes", "lack", ("setup", "frame", "stamps", "room", "lost", "wanted", "many"), (PASS + (1,), PASS + (3,))),
    ("passes", "fewest_frames", ("setup", "frame", "stamps", "room", "lost", "wanted"), (PASS, PASS[:4] + (1, WANTED))),
    ("passes", "plan_of", ("setup", "frame", "stamps", "room", "lost", "wanted"), (PASS, PASS[:4] + (1, WANTED))),
    ("passes", "plan_holds", ("setup", "frame", "stamps", "room", "lost", "wanted", "value"), (PASS + (PLAN,), PASS + (0,))),
    ("passes", "known_ticks", ("setup", "logs", "stamps", "room", "lost", "wanted", "plan"), (
        (ONE, HEARD) + PASS[2:] + (PLAN,), (ONE, HEARD, (), 1, 0, (), ()))),
    ("parting", "laid_ticks", ("setup", "logs", "kind", "row"), ((ONE, HEARD, 0, 5),)),
    ("parting", "joining_ticks", ("setup", "logs", "kind", "row", "many"), ((ONE, HEARD, 0, 4, 2), (ONE, HEARD, 0, 0, 2))),
    ("parting", "laid_word", ("setup", "logs", "kind", "row", "tick"), ((ONE, HEARD, 0, 5, 16), (ONE, HEARD, 0, 5, -3))),
    ("parting", "parting", ("setup", "logs", "kind", "row", "tick", "stamp"), (
        (ONE, HEARD, 0, 5, 16, 10), (ONE, HEARD, 0, 5, 19, 10))),
    ("parting", "parting_stamps", ("setup", "logs", "kind", "row", "tick", "low", "high"), ((ONE, HEARD, 0, 5, 16, 10, 15),)),
    ("parting", "parting_holds", ("setup", "logs", "kind", "row", "tick", "stamp", "value"), (
        (ONE, HEARD[:1], 0, 5, 16, 10, PAPER), (ONE, HEARD, 0, 5, 16, 10, 0))),
    ("parting", "letter_stamps", ("setup", "logs"), ((ONE, SENT),)),
    ("parting", "telling", ("setup", "logs", "stamp"), ((ONE, SENT, 15), (ONE, SENT, 18))),
    ("journals", "plain_journal", ("pages",), ((PAGES,), (PAGES[::-1],))),
    ("book", "folded", ("setup", "logs"), ((ONE, SENT), (SETUP, FLIGHT))),
    ("book", "plain_book", ("pages",), ((BOOK_PAGES,),)),
    ("houses", "join_logs", ("setup", "one", "other"), ((ONE, HEARD, SENT),)),
    ("houses", "part_logs", ("setup", "logs", "lot"), ((ONE, SENT, (0,)),)),
    ("houses", "tightest", ("setup", "logs", "house"), ((ONE, SENT, 0), (ONE, ((),), 0))),
    ("houses", "view", ("setup", "logs", "now"), ((ONE, SENT, 21), (ONE, ((),), 0))),
    ("houses", "lot_view", ("setup", "logs", "now", "lot"), ((ONE, SENT, 21, (0,)),)),
    ("houses", "view_gains", ("setup", "logs", "now", "lot"), ((ONE, SENT, 21, (0,)), (ONE, ((), HEARD[1]), 21, (0,)))),
    ("houses", "is_enough", ("setup", "logs", "now", "lot"), ((ONE, SENT, 21, (0,)), (ONE, SENT, 21, (0, 1)))),
    ("houses", "enough_lots", ("setup", "logs", "now"), ((ONE, SENT, 21),)),
    ("houses", "sure_lots", ("setup", "logs", "now", "kind", "row"), ((ONE, SENT, 21, 0, 4), (ONE, SENT, 21, 0, 99))),
    ("meaning", "meaning", ("setup", "logs", "now"), (
        (ONE, SENT, 21), (ONE, ((),), 3), (ONE, (HEARD[0], (("heard", 19, LAST),)), 19))),
    ("meaning", "row_meaning", ("setup", "logs", "now", "kind", "row"), ((ONE, SENT, 21, 0, 4),)),
    ("meaning", "value_story", ("setup", "logs", "now", "kind", "row", "word", "value"), (
        (ONE, SENT, 20, 0, 5, ("aboard", 4, 2), 8), (ONE, SENT, 20, 0, 4, ("gone",), 7))),
)

# By module each class of the interface, the parameters of a new one, its methods with theirs, and its attributes.
CLASSES = (
    ("probe", "Probe", ("setup",), (
        ("due", ("kind",)), ("marks", ()), ("lay", ("kind", "stamp", "value")), ("take", ("stamp", "letter")),
        ("frame", ("stamp", "places")),
    ), (SETUP,), ("setup", "taken", "number", "stores", "notes")),
    ("link", "Link", ("setup", "offset"), (
        ("down", ("frame",)), ("up", ("tick", "letter")), ("can_hear", ("tick",)), ("can_come", ("stamp",)),
        ("hear", ("tick", "number")), ("come", ("stamp", "number")), ("is_over", ("tick",)),
    ), (SETUP, 100), ("setup", "offset", "frames", "letters")),
    ("ground", "Ground", ("setup", "houses"), (
        ("hear", ("house", "tick", "frame")), ("send", ("tick", "deed")),
    ), (SETUP, 3), ("setup", "logs")),
    ("journals", "Journal", (), (
        ("lay", ("row",)), ("keep", ()), ("loose", ()), ("begin", ("rows",)), ("cut", ("left",)),
    ), (), ("pages", "page", "term", "told", "kept")),
    ("book", "new_book", ("setup", "house"), (
        ("both_pages", ()), ("tell", ("row",)), ("tell_cut", ("row", "left")), ("fold_length", ()), ("fold", ()),
        ("fold_cut", ("left",)),
    ), (SETUP, 3), ("journal", "setup", "house", "rows")),
    ("world", "World", ("setup", "offset", "houses"), (
        ("lay", ("kind", "stamp", "value")), ("frame", ("stamp", "places")), ("come", ("stamp", "number")),
        ("hear", ("house", "tick", "number")), ("letter_now", ()), ("send", ("tick", "deed")), ("again", ("tick",)),
        ("tells", ("now",)), ("true_story", ()),
    ), (SETUP, -4, 3), ("setup", "probe", "link", "logs", "rows", "taken")),
    ("desk", "Desk", ("setup", "offset", "houses"), (("say", ("line",)),), (SETUP, 4, 3), ("world",)),
)

# Functions of which an argument may be any value: those ahead of it, what they then may raise, those behind it.
OF_ANY_VALUE = (
    ("words", "need_octets", (), errors.BadOctets), ("forms", "is_value", (), ()), ("forms", "is_row", (), ()),
    ("forms", "write_value", (), errors.Refused), ("forms", "value_length", (), errors.Refused),
    ("forms", "write_row", (), errors.BadRow), ("forms", "whole_value", (), (errors.BadOctets, errors.Broken)),
    ("forms", "read_value", (ROW,), (errors.Refused, errors.Broken)),
    ("forms", "read_row", (ROW,), (errors.Refused, errors.Broken)),
    ("forms", "read_rows", (), (errors.BadOctets, errors.Broken)),
    ("forms", "healing", (), (errors.BadOctets, errors.Broken)),
    ("chains", "check_chain", (), errors.Refused), ("chains", "chain_holds", (CHAIN,), ()),
    ("spans", "check_span", (), errors.Refused), ("spans", "are_nested", (), ()),
    ("spans", "values_for", (), errors.Refused), ("spans", "total", (), errors.Refused),
    ("spans", "rest", (SPAN,), errors.Refused), ("spans", "join", (SPAN,), errors.Refused),
    ("spans", "span_of", (3,), errors.Refused), ("shapes", "is_shape", (2, 5), ()),
    ("stores", "is_store", (2,), ()), ("values", "check_told_spans", (), errors.Refused),
    ("values", "span_quarrel", (), errors.Refused), ("values", "values_fit", (TOLD,), ()),
    ("setups", "check_setup", (), errors.BadSetup), ("setups", "check_deed", (SETUP,), errors.Refused),
    ("setups", "check_letter", (SETUP,), errors.Refused), ("setups", "check_frame", (SETUP,), errors.BadFrame),
    ("probe", "Probe", (), errors.BadSetup), ("packing", "frame_octets", (SETUP,), errors.BadFrame),
    ("packing", "frame_length", (SETUP,), errors.BadFrame), ("packing", "letter_octets", (SETUP,), errors.Refused),
    ("packing", "most_length", (SETUP,), errors.Refused),
    ("packing", "frame_at", (SETUP, FRAME_OCTETS), (errors.Refused, errors.Broken)),
    ("packing", "letter_at", (SETUP, LETTER_OCTETS), (errors.Refused, errors.Broken)),
    ("packing", "most_length", (), errors.BadSetup, 0), ("link", "echo", (), errors.BadSetup),
    ("link", "heard_ticks", (SETUP, 3), errors.Refused), ("link", "heard_ticks", (SETUP,), errors.Refused, 0),
    ("link", "come_stamps", (SETUP, 3), errors.Refused), ("link", "come_stamps", (SETUP,), errors.Refused, (1,)),
    ("link", "offsets_heard", (SETUP,), errors.Refused), ("link", "offsets_come", (SETUP, 3), errors.Refused),
    ("link", "offsets_come", (SETUP,), errors.Refused, (1,)), ("link", "Link", (SETUP,), errors.Refused),
    ("logs", "check_logs", (SETUP,), errors.BadLog), ("logs", "joined", (SETUP,), (errors.BadLog, errors.Quarrel)),
    ("stories", "story_holds", (SETUP, FLIGHT, 14), ()), ("stories", "story_holds", (SETUP, LOGS), errors.Refused, STORY),
    ("stories", "story_holds", (SETUP,), (errors.BadLog, errors.Refused), 5, None),
    ("offsets", "bindings", (), errors.BadSetup, FLIGHT), ("offsets", "offsets", (SETUP,), (errors.BadLog, errors.Refused)),
    ("offsets", "past_rows", (SETUP, LOGS), errors.Refused), ("offsets", "past_story", (SETUP, LOGS), errors.Refused),
    ("counts", "letter_word", (SETUP, LOGS), errors.Refused), ("counts", "pairs", (SETUP, LOGS, 9), errors.NoClass),
    ("counts", "laid_now", (SETUP, LOGS, 9), errors.NoClass), ("aboard", "shapes_at", (SETUP, LOGS, 9), errors.NoClass),
    ("aboard", "row_words", (SETUP, LOGS, 9, 0), errors.NoRow), ("aboard", "row_word", (SETUP, LOGS, 9), errors.NoClass, 3),
    ("aboard", "word_in", (SETUP, FLIGHT, 14), errors.Refused, 0, 0),
    ("aboard", "word_in", (SETUP, FLIGHT, 14, STORY, 0), errors.NoRow), ("known", "check_known", (SETUP,), errors.Refused),
    ("known", "known_of", (SETUP,), errors.BadLog), ("known", "both_known", (SETUP, KNOWN), errors.Refused),
    ("known", "tells_all", (SETUP,), errors.Refused, KNOWN), ("known", "row_known", (SETUP, KNOWN, 1), errors.NoRow),
    ("known", "picture", (SETUP, KNOWN), errors.NoClass, 3), ("known", "lacks", (SETUP, KNOWN, 0), errors.Refused),
    ("known", "told_to", (SETUP, KNOWN), errors.NoClass), ("ground", "letter_now", (SETUP,), errors.BadLog),
    ("ground", "unknown_below", (SETUP, LOGS, 11, 0), errors.Refused), ("ground", "most_below", (SETUP, LOGS, 11), errors.NoClass),
    ("ground", "may_send", (SETUP, LOGS, 11), errors.Refused), ("ground", "Ground", (SETUP,), errors.Refused),
    ("passes", "laid_when", (3, 2, 9), errors.Refused), ("passes", "all_aboard", (ONE,), errors.BadFrame),
    ("passes", "life", (ONE, LAST), errors.Refused), ("passes", "lack", PASS[:2], errors.Refused, 2, 0, WANTED, 0),
    ("passes", "fewest_frames", PASS[:3], errors.Refused, 0, WANTED), ("passes", "plan_of", PASS[:5], errors.Refused),
    ("passes", "plan_holds", PASS, ()), ("passes", "known_ticks", (ONE, HEARD) + PASS[2:], errors.Refused),
    ("parting", "laid_ticks", (ONE, HEARD, 0), errors.NoRow), ("parting", "laid_word", (ONE, HEARD, 0, 5), errors.Refused),
    ("parting", "joining_ticks", (ONE, HEARD, 0, 5), errors.Refused), ("parting", "telling", (ONE, SENT), errors.Refused),
    ("parting", "parting", (ONE, HEARD, 0, 5), errors.Refused, 10),
    ("parting", "parting_stamps", (ONE, HEARD, 0, 5, 16, 11), errors.Refused),
    ("parting", "parting_holds", (ONE, HEARD, 0, 5, 16, 10), ()), ("parting", "letter_stamps", (ONE,), (errors.BadLog, errors.Refused)),
    ("journals", "plain_journal", (), (errors.Refused, errors.BadOctets, errors.Broken)),
    ("book", "folded", (ONE,), errors.BadLog), ("book", "new_book", (ONE,), errors.Refused),
    ("book", "plain_book", (), (errors.Refused, errors.BadOctets, errors.Broken)),
    ("houses", "join_logs", (ONE, HEARD), (errors.BadLog, errors.Refused)), ("houses", "part_logs", (ONE, SENT), errors.Refused),
    ("houses", "tightest", (ONE, SENT), errors.Refused), ("houses", "view", (ONE,), errors.BadLog, 21),
    ("houses", "lot_view", (ONE, SENT, 21), errors.Refused), ("houses", "view_gains", (ONE, SENT, 21), errors.Refused),
    ("houses", "is_enough", (ONE, SENT, 21), errors.Refused), ("houses", "enough_lots", (ONE,), errors.BadLog, 21),
    ("houses", "sure_lots", (ONE, SENT, 21, 0), errors.NoRow), ("meaning", "meaning", (ONE,), errors.BadLog, 21),
    ("meaning", "row_meaning", (ONE, SENT, 21, 0), errors.NoRow),
    ("meaning", "value_story", (ONE, SENT, 21, 0, 4), errors.NoRow, 7), ("meaning", "value_story", (ONE, SENT, 21, 0, 4, 0), errors.Refused),
    ("world", "World", (ONE,), errors.Refused, 2), ("world", "World", (ONE, 5), errors.Refused),
    ("desk", "Desk", (ONE,), errors.Refused, 2),
)


def function_of(module, name):
    return getattr(importlib.import_module("farstory." + module), name)


def any_value_calls():
    """(function, arguments ahead, what it may raise, arguments behind), of each that takes any value."""
    for module, name, ahead, described, *behind in OF_ANY_VALUE:
        yield function_of(module, name), ahead, described, tuple(behind)


def all_calls():
    for module, name, parameters, calls in CALLS:
        for args in calls:
            yield function_of(module, name), parameters, args


class Interface(Case):
    def test_defined_where_it_is_listed(self):
        for module, name, _, _ in CALLS:
            self.assertEqual(function_of(module, name).__module__, "farstory." + module)
            self.assertTrue(inspect.isfunction(function_of(module, name)))
            self.assertEqual(function_of(module, name).__name__, name)

    def test_names_of_parameters(self):
        for module, name, parameters, _ in CALLS:
            told = inspect.signature(function_of(module, name)).parameters
            self.assertEqual(tuple(told), parameters, name)
            for parameter in told.values():
                self.assertEqual(parameter.kind, inspect.Parameter.POSITIONAL_OR_KEYWORD, name)
                self.assertIs(parameter.default, inspect.Parameter.empty, name)


    def test_classes(self):
        for module, name, parameters, methods, args, attributes in CLASSES:
            made = function_of(module, name)
            new = made(*args)
            of_class = new.__class__
            self.assertEqual(made.__module__, "farstory." + module)
            self.assertEqual((of_class.__module__, inspect.isclass(of_class)), ("farstory." + module, True))
            self.assertEqual(of_class.__name__, "Book" if module == "book" else name)
            self.assertEqual(tuple(inspect.signature(made).parameters), parameters)
            for method, wanted in methods:
                # Defined in that class itself, not only in a base class.
                self.assertTrue(inspect.isfunction(vars(of_class)[method]), method)
                self.assertEqual(tuple(inspect.signature(vars(of_class)[method]).parameters)[1:], wanted)
            for attribute in attributes:
                self.assertIn(attribute, vars(new))
            again = made(**dict(zip(parameters, lists(args))))
            for attribute in attributes:
                found = getattr(new, attribute)
                if isinstance(found, (tuple, int, str)):
                    self.same(found, tuples(found))
                    self.same(getattr(again, attribute), found)
                else:
                    self.assertIs(found.__class__, getattr(again, attribute).__class__)


class AllCalls(Case):
    def test_by_position_and_by_names(self):
        for function, parameters, args in all_calls():
            self.same(function(**dict(zip(parameters, args))), function(*args))

    def test_lists_for_tuples(self):
        for function, _, args in all_calls():
            self.same(function(*lists(args)), function(*args))

    def test_tuples_are_returned(self):
        for function, _, args in all_calls():
            found = function(*lists(args))
            self.same(found, tuples(found))

    def test_arguments_stay(self):
        for function, _, args in all_calls():
            passed = lists(args)
            kept = copy.deepcopy(passed)
            function(*passed)
            self.same(passed, kept)

    def test_later_changes_have_no_effect(self):
        for function, _, args in all_calls():
            passed = lists(args)
            found = function(*passed)
            told = repr(found)
            for value in passed:
                if isinstance(value, list):
                    for part in value:
                        if isinstance(part, list):
                            part.clear()
                    value.clear()
            self.assertEqual(repr(found), told)

    def test_again_whatever_was_called_between(self):
        first = [repr(function(*args)) for function, _, args in all_calls()]
        for function, ahead, _, behind in any_value_calls():
            for value in ODD:
                try:
                    function(*ahead, value, *behind)
                except (ValueError, KeyError):
                    pass
        again = [repr(function(*args)) for function, _, args in list(all_calls())[::-1]]
        self.assertEqual(again[::-1], first)

    def test_no_bool_is_an_integer(self):
        from farstory import forms, spans
        for value in (1, True, 1, False, 0):
            self.assertIs(forms.is_value(value), not isinstance(value, bool))
            self.assertIs(spans.are_nested([(0, 1, value, value, value)]), not isinstance(value, bool))


class AnyValue(Case):
    def test_only_what_is_described_is_raised(self):
        deep = [nested(depth) for depth in (2, 39, 40, 41, 50)]
        for function, ahead, described, behind in any_value_calls():
            for value in ODD + tuple(deep) + tuple(lists(deep)) + ((errors.NoRow(3),) * 5, [None] * 3, ("", "", "")):
                try:
                    found = function(*ahead, value, *behind)
                except described:
                    continue
                self.same(found, tuples(found))

    def test_whether_is_a_bool(self):
        for function, ahead, described, behind in any_value_calls():
            if described == ():
                for value in ODD:
                    self.assertIn(repr(function(*ahead, value, *behind)), ("True", "False"))

    def test_what_is_refused_is_kept_itself(self):
        for function, ahead, described, behind in any_value_calls():
            if described is errors.Refused:
                for value in ([[[True]]], errors.Refused(0), [None, [True]], "A"):
                    with self.assertRaises(errors.Refused) as caught:
                        function(*ahead, value, *behind)
                    self.assertIs(caught.exception.at, value)


class Limits(Case):
    """Where a point names a limit of its own, its tests are with it."""

    def test_forms(self):
        from farstory import forms
        row = ("r",) + ("a" * 4000, 256 ** 199) * 4 + ((None,) * 3000,)
        octets = forms.write_row(row)
        self.assertGreater(len(octets), 19000)
        self.same(forms.read_rows(octets), ((row,), len(octets)))
        self.same(forms.whole_value(octets), row)
        self.assertEqual(forms.value_length(row), len(octets))
        self.same(forms.read_rows(octets[:-1]), ((), 0))
        self.same(forms.healing(octets[:-1]), (0,))
        small = forms.write_row(("",)) * 4000
        self.assertEqual(forms.read_rows(small), ((("",),) * 4000, 20000))
        self.same(forms.healing(small + (4, 1)), (1, 3, 0))
