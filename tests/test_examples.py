"""The examples of the document, as they stand there."""

import doctest

from tests.helping import Case

OVERVIEW = """
>>> from farstory.desk import Desk
>>> desk = Desk((((2, 3, 2),), (1, 2), (1, 1)), 6, 2)
>>> [desk.say(line) for line in ("lay 0 0 7", "lay 0 3 -1", "frame 4 0:0", "send 10 free 0 1", "hear 1 11 0", "lay 0 5 9")]
['row 0', 'row 1', 'frame 0', 'letter 1', 'heard', 'row 2']
>>> [desk.say(line) for line in ("come 5 1", "hear 0 12 0", "offsets 12", "laid 12 0", "row 12 0 0")]
['taken', 'heard', '6:6', '3', 'aboard 0 2 | gone']
"""
FORMS = """
>>> from farstory.forms import healing, read_rows, read_value, value_length, write_row, write_value
>>> write_value([None, -3, "ab"]), value_length(256 ** 2)
((4, 1, 3, 0, 2, 1, 2, 3, 1, 2, 0, 1), 5)
>>> octets = write_row(("kept", (None, 3))) + (4, 1, 2, 3)
>>> read_value((9, 9) + octets, 2), read_rows(octets), healing(octets)
((('kept', (None, 3)), 19), ((('kept', (None, 3)),), 17), (0, 0))
"""
CHAINS = """
>>> from farstory.chains import chain_holds, chain_through, counts_by, latest_chain, least_chain, split, split_stamps, stamps
>>> chain = (2, 5, 3, ((0, None), (9, 12), (0, 13)))
>>> stamps(chain), least_chain(chain), latest_chain(chain), chain_holds(chain, [6, 9, 13])
(((5, 8), (9, 11), (11, 13)), (5, 9, 11), (8, 11, 13), True)
>>> chain_through(chain, 0, 8), chain_through(chain, 0, 4), split(chain, 10), split_stamps(chain, 1), split_stamps(chain, 3)
((8, 10, 12), None, (1, 2), (5, 10), (11, None))
>>> counts_by(2, 5, 3, 0, 20), counts_by(2, 5, None, 6, 20), stamps((2, 5, None, ((0, None), (0, 1))))
((3, 8), None, None)
"""
SPANS = """
>>> from farstory.spans import are_nested, check_span, join, rest, row_span, span_of, total, values_for
>>> one, other = span_of(4, (5, -2)), join(row_span(6, 3), row_span(7, 3))
>>> one, other, join(one, other), total([one, row_span(6, 3)])
((4, 2, 3, -2, 5), (6, 2, 6, 3, 3), (4, 4, 9, -2, 5), (4, 3, 6, -2, 5))
>>> rest(join(one, other), [row_span(5, -2)]), are_nested([one, other, (4, 4, 9, -2, 5)]), are_nested([one, (5, 1, 0, 0, 0), (5, 2, 1, 0, 1)])
(((4, 6, 7), 11), True, False)
>>> sorted(values_for((0, 2, 3, -2, 5)))
[-2, 5]
"""
STORES = """
>>> from farstory.shapes import counts_of, first_behind, most_many, most_spans, shape, span_at
>>> from farstory.stores import laid_all, lay, let_go, shape_of, span_with
>>> store = laid_all(2, [(3, 5), (4, -2), (9, 3), (11, 3), (12, 8)])
>>> store, counts_of(2, 5), let_go(store, 3) == (5, 12, store[2][1:])
((5, 12, ((0, 2, 3, -2, 5), (2, 2, 6, 3, 3), (4, 1, 8, 8, 8))), (1, 2), True)
>>> shape_of(lay(let_go(store, 2), 2, 13, 0)), shape(2, 2, 6), span_with(store, 1)[:2], span_at(2, 2, 6, 1)
(((2, 2), (4, 1), (5, 1)), ((2, 2), (4, 1), (5, 1)), (0, 2), None)
>>> first_behind(2, 0, 5, 3), most_many(2, 6), most_spans(2, 9)
(2, 4, 4)
"""
VALUES = """
>>> from farstory.values import known_span, rest_of, some_values, span_quarrel, values_fit, values_of
>>> spans = ((0, 1, 1, 1, 1), (0, 4, 10, 1, 5))
>>> rest_of(spans, spans[1]), span_quarrel(spans), values_of(spans, 0), values_of(spans, 2), values_of(spans, 4)
(((1, 2, 3), 9, False, True), None, ((1, 1),), ((1, 3), (5, 5)), ((-1000000, 1000000),))
>>> values_fit(spans, some_values(spans, 2, 3)), span_quarrel(((0, 2, 9, 1, 5),)), known_span(spans + ((4, 4, 0, -1, 1),), 0, 8)
(True, ('unfit', (0, 2, 9, 1, 5)), (0, 8, 10, -1, 5))
"""
PROBE = """
>>> from farstory.probe import Probe
>>> probe = Probe((((1, 4, 2), (3, 9, 2)), (2, 5), (1, 1)))
>>> probe.lay(0, 1, 7), probe.lay(0, 3, 5), probe.lay(1, 3, 40), probe.lay(0, 4, 6), probe.due(0), probe.due(1)
(0, 1, 0, 2, 8, 12)
>>> probe.frame(4, [(0, 0), (1, 0)]), probe.take(5, (2, ("note", 9))), probe.take(6, (1, ("free", 0, 2))), probe.marks()
((0, 4, 0, ((3, 0, 4), (1, 0, 3)), ((0, (0, 2, 12, 5, 7)), (1, (0, 1, 40, 40, 40)))), False, True, ((3, 2, 4), (1, 0, 3)))
"""
PACKING = """
>>> from farstory.packing import frame_at, frame_length, frame_octets, letter_at, letter_octets, most_length
>>> setup = (((1, 4, 2), (3, 9, 2)), (2, 5), (1, 1))
>>> frame = (0, 4, 0, ((3, 0, 4), (1, 0, 3)), ((0, (0, 2, 12, 5, 7)), (1, (0, 1, 40, 40, 40))))
>>> frame_octets(setup, frame)[12:]
(0, 0, 3, 0, 0, 0, 0, 4, 0, 0, 1, 0, 0, 0, 0, 3, 2, 0, 0, 15, 66, 69, 0, 0, 2, 1, 0, 15, 66, 104)
>>> frame_at(setup, (9,) + frame_octets(setup, frame), 1) == (frame, 43), frame_length(setup, frame), most_length(setup, 1)
(True, 42, 46)
>>> letter_octets(setup, (1, ("free", 0, 2))), letter_at(setup, (0, 0, 0, 3, 1, 3, 231, 5), 0)
((0, 0, 0, 1, 0, 0, 0, 0, 2), ((3, ('note', 999)), 7))
"""
LINK = """
>>> from farstory.link import Link, come_stamps, echo, heard_ticks, offsets_come, offsets_heard
>>> setup = (((1, 4, 2),), (2, 5), (1, 1))
>>> heard_ticks(setup, 100, 4), come_stamps(setup, 100, [90, 108, 109, 120]), echo(setup)
((106, 109), ((9, 10), (21, 21)), 3)
>>> offsets_heard(setup, [(4, 107), (9, 111)]), offsets_heard(setup, [(4, 107), (9, 116)]), offsets_come(setup, 9, [108, 110])
((98, 100), None, ((100, 100), (102, 102)))
>>> link, frame = Link(setup, 100), (0, 3, 0, ((0, 0, None),), ())
>>> link.down(frame), link.up(104, (1, ("note", 9))), link.up(106, (1, ("note", 9)))
(103, 1, 2)
>>> link.hear(108, 0) == frame, link.can_hear(109), link.can_come(5), link.can_come(6), link.is_over(107), link.is_over(108)
(True, (), ((1, ('note', 9)),), (), False, True)
"""
LOGS = """
>>> from farstory.logs import check_logs, joined, outstanding
>>> from farstory.stories import story_holds
>>> setup = (((2, 3, 2),), (1, 2), (1, 1))
>>> frame = (0, 4, 0, ((2, 0, 3),), ((0, (0, 1, 7, 7, 7)),))
>>> logs = ((("sent", 10, (1, ("free", 0, 1))), ("heard", 12, frame)), (("heard", 11, frame),))
>>> joined(setup, logs)[1:], outstanding((frame,), joined(setup, logs)[2])
((((0, 11), (0, 12)), ((1, ('free', 0, 1), (10,)),)), (1, ('free', 0, 1), (10,)))
>>> story_holds(setup, logs, 12, (6, (None,), (((0, 7), (3, 0), (5, 9)),))), story_holds(setup, logs, 12, (6, (4,), (((0, 7), (3, 0), (5, 9)),)))
(True, False)
"""
OFFSETS = """
>>> from farstory.offsets import bindings, offsets, past_rows
>>> setup = (((2, 3, 2),), (0, 4), (1, 2))
>>> one, other = (0, 4, 0, ((2, 0, 4),), ((0, (1, 1, 7, 7, 7)),)), (1, 9, 1, ((4, 0, 9),), ())
>>> logs = ((("heard", 9, one), ("sent", 12, (1, ("free", 0, 1))), ("heard", 17, other)),)
>>> bindings(setup, logs)[2], offsets(setup, logs), past_rows(setup, logs, 4)[0]
(('taken', 1, ((4, 8),)), ((4, 5),), (9,))
"""
COUNTS = """
>>> from farstory.counts import laid_now, letter_word, pairs
>>> setup, frame = (((2, 3, 2),), (1, 2), (1, 1)), (0, 4, 0, ((2, 0, 3),), ((0, (0, 1, 7, 7, 7)),))
>>> logs = ((("sent", 10, (1, ("free", 0, 1))), ("heard", 12, frame)), (("heard", 11, frame),))
>>> [one[:2] for one in pairs(setup, logs, 12, 0)], laid_now(setup, logs, 13, 0), letter_word(setup, logs, 12)
([(None, 3), (2, 3), (3, 3)], (3, 4), 'open')
"""
ABOARD = """
>>> from farstory.aboard import row_word, row_words, shapes_at, word_in
>>> setup, frame = (((2, 3, 2),), (1, 2), (1, 1)), (0, 4, 0, ((2, 0, 3),), ((0, (0, 1, 7, 7, 7)),))
>>> logs = ((("sent", 10, (1, ("free", 0, 1))), ("heard", 12, frame)), (("heard", 11, frame),))
>>> [one for one, story in shapes_at(setup, logs, 12, 0)], row_word(setup, logs, 12, 0, 2)
([(3, ((0, 2), (2, 1))), (3, ((1, 1), (2, 1)))], ('sure', ('aboard', 2, 1)))
>>> [word for word, story in row_words(setup, logs, 12, 0, 0)], row_word(setup, logs, 12, 0, 0)[0], row_word(setup, logs, 12, 0, 9)
([('aboard', 0, 2), ('gone',)], 'open', ('sure', ('later',)))
>>> word_in(setup, logs, 12, (6, (5,), (((0, 7), (3, 0), (6, 9)),)), 0, 1)
('aboard', 1, 1)
"""
KNOWN = """
>>> from farstory.known import both_known, lacks, picture, row_known, tells_all, told_to
>>> setup = (((1, 3, 2), (2, 2, 4)), (0, 5), (0, 5))
>>> one, other = (((0, 2, 7, 3, 4), (4, 1, 9, 9, 9)), ()), (((0, 4, 10, 1, 4), (2, 1, 2, 2, 2)), ())
>>> both = both_known(setup, one, other)
>>> both[0], row_known(setup, both, 0, 0), row_known(setup, both, 0, 3), row_known(setup, one, 0, 2)
(((0, 2, 7, 3, 4), (0, 4, 10, 1, 4), (2, 1, 2, 2, 2), (4, 1, 9, 9, 9)), ('within', 0, 2), ('value', 1), ('untold',))
>>> picture(setup, both, 0, 6), lacks(setup, one, 0, 6), told_to(setup, both, 0), tells_all(setup, both, one)
(((0, 1, ('within', 0, 2)), (2, 4, ('value',)), (5, 5, ('untold',))), ((2, 3), (5, 5)), 5, True)
"""
GROUND = """
>>> from farstory.ground import Ground, letter_now, may_send, most_below, unknown_below
>>> setup = (((2, 3, 2),), (1, 1), (1, 2))
>>> ground = Ground(setup, 1)
>>> ground.hear(0, 10, (0, 4, 0, ((2, 0, 4),), ((0, (0, 1, 7, 7, 7)),)))
>>> unknown_below(setup, ground.logs, 11, 0, 3), most_below(setup, ground.logs, 11, 0), may_send(setup, ground.logs, 11, ("free", 0, 2))
(((0, 2), (2, 1)), 1, False)
>>> ground.send(11, ("free", 0, 1)), letter_now(setup, ground.logs), may_send(setup, ground.logs, 12, ("note", 3))
((1, ('free', 0, 1)), (1, ('free', 0, 1)), False)
"""
PASSES = """
>>> from farstory.passes import all_aboard, fewest_frames, known_ticks, lack, laid_when, life, plan_holds, plan_of
>>> setup, frame = (((2, 3, 2),), (1, 2), (1, 1)), (0, 9, 0, ((5, 0, 8),), ())
>>> all_aboard(setup, frame), life(setup, frame, (0, 4, 1)), laid_when(3, 2, 9, 4)
(((0, 0, 2), (0, 2, 2), (0, 4, 1)), (2, 12, 14), 16)
>>> wanted, plan = all_aboard(setup, frame), [[(0, 4, 1)], [(0, 0, 2), (0, 2, 2)]]
>>> fewest_frames(setup, frame, (10, 11, 12), 2, 0, wanted), plan_holds(setup, frame, (10, 11, 12), 2, 0, wanted, plan)
(2, True)
>>> plan_of(setup, frame, (10, 11, 12), 2, 1, wanted), lack(setup, frame, (10, 11, 12), 2, 0, wanted, 1)
(('lack', 1), 1)
>>> known_ticks(setup, ((("heard", 16, frame),),), (10, 11, 12), 2, 0, wanted, plan)
(17, 19)
"""
PARTING = """
>>> from farstory.parting import joining_ticks, laid_ticks, laid_word, letter_stamps, parting, parting_holds, parting_stamps, telling
>>> setup, frame = (((2, 3, 2),), (1, 2), (1, 3)), (0, 9, 0, ((5, 0, 8),), ())
>>> logs = ((("heard", 16, frame),),)
>>> laid_ticks(setup, logs, 0, 5), laid_word(setup, logs, 0, 5, 16), joining_ticks(setup, logs, 0, 4, 2)
((15, 17), 'open', (6, 17, 20))
>>> parting_holds(setup, logs, 0, 5, 16, 10, (5, 8, 17, (5, 11), (6, 11))), parting(setup, logs, 0, 5, 17, 10)
(True, None)
>>> even = (setup[0], (1, 1), (1, 3))
>>> laid_word(even, logs, 0, 5, 16), parting_stamps(even, logs, 0, 5, 16, 10, 15)
('open', (10, 11, 12))
>>> logs = ((("heard", 16, frame), ("sent", 20, (1, ("note", 3)))),)
>>> letter_stamps(setup, logs), [telling(setup, logs, stamp) for stamp in (14, 15, 17, 18)]
((15, 18), ['not', 'perhaps', 'perhaps', 'surely'])
"""
BOOKS = """
>>> from farstory.book import folded, new_book, open_book
>>> setup, frame = (((1, 4, 2),), (2, 5), (1, 2)), (0, 3, 0, ((0, 0, None),), ())
>>> book = new_book(setup, 0)
>>> [book.tell(("sent", tick, (1, ("note", 7)))) for tick in (90, 91, 92)], [book.tell(("heard", tick, frame)) for tick in (105, 106, 107)]
([1, 2, 3], [4, 5, 6])
>>> book.tell_cut(("heard", 108, frame), 0), [row[1] for row in folded(setup, [book.rows])[0]], book.fold_cut(9)
(False, [90, 92, 105, 107], False)
>>> book.fold(), len(book.rows), open_book(book.both_pages()).rows == book.rows
(None, 4, True)
"""
HOUSES = """
>>> from farstory.houses import enough_lots, join_logs, lot_view, sure_lots, tightest, view, view_gains
>>> setup, frame = (((2, 3, 2),), (1, 3), (1, 1)), (0, 2, 0, ((2, 0, 2),), ())
>>> logs = tuple([(("heard", tick, frame),) for tick in (5, 4, 6)])
>>> view(setup, logs, 6), lot_view(setup, logs, 6, (0,)), view_gains(setup, logs, 6, (0,))
((((1, 1),), None, (((0, 3),),)), (((0, 2),), None, (((0, 2), (0, 3), (0, 4)),)), ((1, 1, (1,)), (2, 1, (1,))))
>>> enough_lots(setup, logs, 6), sure_lots(setup, logs, 6, 0, 2), sure_lots(setup, logs, 6, 0, 3), tightest(setup, logs, 2)
(((0, 1, 2),), ((0, 1),), ((0, 2),), (0, 0))
>>> join_logs(setup, (logs[0], (), logs[2]), (logs[0], logs[1], ())) == logs
True
"""
WHOLE = """
>>> from farstory.meaning import meaning, row_meaning, value_story
>>> from farstory.world import World
>>> world = World((((2, 3, 2),), (1, 2), (1, 1)), 6, 2)
>>> world.tells(5), world.lay(0, 0, 7), world.lay(0, 3, 5), world.send(9, ("note", 1)), world.come(4, 1), world.frame(4, [(0, 0)])[2]
(('deaf',), 0, 1, 1, True, 1)
>>> world.hear(0, 12, 0)[3], world.hear(1, 11, 0)[3], world.tells(12)[:3]
(((2, 0, 3),), ((2, 0, 3),), ('told', ((6, 6),), None))
>>> world.tells(12)[3], row_meaning(world.setup, world.logs, 13, 0, 3), row_meaning(world.setup, world.logs, 12, 0, 0)
((((3,), ((0, 3),), ((0, 1, 7, 7, 7),)),), ((('aboard', 3, 1), ('later',)), ((-1000000, 1000000),)), ((('aboard', 0, 2),), ((7, 7),)))
>>> value_story(world.setup, world.logs, 12, 0, 0, ("aboard", 0, 2), 8) is None, world.true_story()
(True, (6, (4,), (((0, 7), (3, 5)),)))
"""
DESK = """
>>> from farstory.desk import Desk
>>> desk = Desk((((2, 3, 2),), (1, 2), (1, 1)), 6, 2)
>>> [desk.say(line) for line in ("lay 0 0 7", "lay 0 3 -1", "frame 4 0:0", "send 10 free 0 1", "hear 1 11 0", "lay 0 5 9")]
['row 0', 'row 1', 'frame 0', 'letter 1', 'heard', 'row 2']
>>> [desk.say(line) for line in ("come 5 1", "hear 0 12 0", "hear 0 13 0", "told 12", "offsets 12", "letter 12", "laid 12 0")]
['taken', 'heard', 'refused', 'told', '6:6', 'open', '3']
>>> [desk.say(line) for line in ("row 12 0 0", "row 12 0 9", "value 12 0 0", "lacks 0 3")]
['aboard 0 2 | gone', 'later', '7:7', '1:2']
"""


class Examples(Case):
    def holds(self, examples, count):
        test = doctest.DocTestParser().get_doctest(examples, {}, "examples", None, 0)
        self.assertEqual(len(test.examples), count)
        told = []
        result = doctest.DocTestRunner(verbose=False).run(test, out=told.append)
        self.assertEqual(result.failed, 0, "".join(told))

    def test_forms(self):
        self.holds(FORMS, 4)

    def test_chains(self):
        self.holds(CHAINS, 5)

    def test_spans(self):
        self.holds(SPANS, 5)

    def test_stores(self):
        self.holds(STORES, 6)

    def test_values(self):
        self.holds(VALUES, 4)

    def test_probe(self):
        self.holds(PROBE, 4)

    def test_packing(self):
        self.holds(PACKING, 6)

    def test_link(self):
        self.holds(LINK, 7)

    def test_logs_and_stories(self):
        self.holds(LOGS, 7)

    def test_offsets(self):
        self.holds(OFFSETS, 5)

    def test_counts(self):
        self.holds(COUNTS, 4)

    def test_aboard(self):
        self.holds(ABOARD, 6)

    def test_known(self):
        self.holds(KNOWN, 6)

    def test_overview(self):
        self.holds(OVERVIEW, 4)

    def test_ground(self):
        self.holds(GROUND, 6)

    def test_passes(self):
        self.holds(PASSES, 7)

    def test_parting(self):
        self.holds(PARTING, 9)

    def test_books(self):
        self.holds(BOOKS, 6)

    def test_houses(self):
        self.holds(HOUSES, 6)

    def test_the_whole(self):
        self.holds(WHOLE, 7)

    def test_desk(self):
        self.holds(DESK, 5)
