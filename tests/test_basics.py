"""Points 1 to 3, and the interface: what holds for all functions."""

import copy
import importlib
import inspect

from farstory import errors
from tests.helping import ODD, Case, lists, nested, tuples

CHAIN = (2, 5, 3, ((0, None), (9, 12), (0, 13)))
SPAN = (4, 4, 9, -2, 5)
STORE = (5, 12, ((0, 2, 3, -2, 5), (2, 2, 6, 3, 3), (4, 1, 8, 8, 8)))
SHAPE = ((0, 2), (2, 2), (4, 1))
TOLD = ((0, 1, 1, 1, 1), (0, 4, 10, 1, 5))
SETUP = (((1, 4, 2), (3, 9, 2)), (2, 5), (1, 1))
FRAME = (0, 4, 0, ((3, 0, 4), (1, 0, 3)), ((0, (0, 2, 12, 5, 7)), (1, (0, 1, 40, 40, 40))))
ROW = (4, 1, 2, 3, 1, 1, 0, 4, 1, 1, 0)
THING = ("ab", (1, ()), None)

# By module each function of the interface, its parameters, and arguments of calls that it answers.
CALLS = (
    ("words", "need_octets", ("value",), ((ROW,), ((),))),
    ("forms", "is_value", ("value",), ((THING,), (1,), ((1,),))),
    ("forms", "is_row", ("value",), ((THING,), ((1,),))),
    ("forms", "write_value", ("value",), ((THING,), (-300,))),
    ("forms", "write_row", ("row",), ((THING,),)),
    ("forms", "value_length", ("value",), ((THING,), ("a",))),
    ("forms", "read_value", ("octets", "at"), ((ROW, 0), (ROW, 7))),
    ("forms", "whole_value", ("octets",), ((ROW,),)),
    ("forms", "read_row", ("octets", "at"), (((9,) + ROW, 1),)),
    ("forms", "read_rows", ("octets",), ((ROW + ROW,), (ROW + ROW[:3],))),
    ("forms", "healing", ("octets",), ((ROW,), (ROW[:4],))),
    ("chains", "check_chain", ("value",), ((CHAIN,),)),
    ("chains", "stamps", ("chain",), ((CHAIN,), ((1, 1, 0, ((0, 0),)),))),
    ("chains", "least_chain", ("chain",), ((CHAIN,),)),
    ("chains", "latest_chain", ("chain",), ((CHAIN,),)),
    ("chains", "chain_holds", ("chain", "value"), ((CHAIN, (6, 9, 13)), (CHAIN, (6, 9)))),
    ("chains", "chain_through", ("chain", "row", "stamp"), ((CHAIN, 0, 8), (CHAIN, 0, 4))),
    ("chains", "split", ("chain", "stamp"), ((CHAIN, 10),)),
    ("chains", "split_stamps", ("chain", "count"), ((CHAIN, 1), (CHAIN, 3))),
    ("chains", "counts_by", ("gap", "pause", "begin", "low", "stamp"), ((2, 5, 3, 0, 20), (2, 5, None, 6, 20))),
    ("spans", "check_span", ("value",), ((SPAN,),)),
    ("spans", "behind", ("span",), ((SPAN,),)),
    ("spans", "row_span", ("row", "value"), ((3, -7),)),
    ("spans", "join", ("one", "other"), (((4, 2, 3, -2, 5), (6, 2, 6, 3, 3)),)),
    ("spans", "span_of", ("first", "values"), ((4, (5, -2)),)),
    ("spans", "values_for", ("span",), ((SPAN,),)),
    ("spans", "is_within", ("span", "other"), (((4, 2, 3, -2, 5), SPAN), (SPAN, (4, 2, 3, -2, 5)))),
    ("spans", "is_apart", ("span", "other"), (((4, 2, 3, -2, 5), SPAN), ((4, 2, 3, -2, 5), (6, 1, 0, 0, 0)))),
    ("spans", "are_nested", ("value",), (((SPAN, (4, 2, 3, -2, 5)),), (0,))),
    ("spans", "total", ("spans",), ((((4, 2, 3, -2, 5), (6, 1, 3, 3, 3)),),)),
    ("spans", "rest", ("span", "parts"), ((SPAN, ((5, 1, -2, -2, -2),)),)),
    ("shapes", "counts_of", ("keep", "many"), ((2, 5),)),
    ("shapes", "shape", ("keep", "first", "laid"), ((2, 2, 6),)),
    ("shapes", "is_shape", ("keep", "laid", "value"), ((2, 5, SHAPE), (2, 4, SHAPE))),
    ("shapes", "first_of", ("some", "laid"), ((SHAPE, 5), ((), 5))),
    ("shapes", "lay_shape", ("laid", "some", "keep"), ((5, SHAPE, 2),)),
    ("shapes", "let_go_shape", ("some", "below"), ((SHAPE, 2),)),
    ("shapes", "span_at", ("keep", "first", "laid", "row"), ((2, 2, 6, 3), (2, 2, 6, 1))),
    ("shapes", "first_behind", ("keep", "first", "laid", "below"), ((2, 0, 5, 3),)),
    ("shapes", "most_many", ("keep", "age"), ((2, 6),)),
    ("shapes", "most_spans", ("keep", "rows"), ((2, 9),)),
    ("stores", "empty_store", (), ((),)),
    ("stores", "shape_of", ("store",), ((STORE,),)),
    ("stores", "is_store", ("keep", "value"), ((2, STORE), (3, STORE))),
    ("stores", "lay", ("store", "keep", "stamp", "value"), ((STORE, 2, 13, 0),)),
    ("stores", "let_go", ("store", "below"), ((STORE, 3),)),
    ("stores", "span_with", ("store", "row"), ((STORE, 3),)),
    ("stores", "laid_all", ("keep", "rows"), ((2, ((3, 5), (4, -2), (9, 3), (None, 1))),)),
    ("values", "check_told_spans", ("value",), ((TOLD[::-1],),)),
    ("values", "rest_of", ("spans", "span"), ((TOLD, TOLD[1]),)),
    ("values", "span_quarrel", ("spans",), ((TOLD,), (((0, 2, 9, 1, 5),),))),
    ("values", "values_of", ("spans", "row"), ((TOLD, 2), (TOLD, 9))),
    ("values", "some_values", ("spans", "row", "value"), ((TOLD, 2, 3),)),
    ("values", "some_rows", ("spans", "many"), ((TOLD, 5),)),
    ("values", "values_fit", ("spans", "value"), ((TOLD, ((0, 1), (1, 1), (2, 3), (3, 5))), (TOLD, 0))),
    ("values", "covering", ("spans", "first", "many"), ((TOLD, 0, 4), (TOLD, 0, 3))),
    ("values", "known_span", ("spans", "first", "many"), ((TOLD, 0, 4),)),
    ("setups", "check_setup", ("value",), ((SETUP,),)),
    ("setups", "check_deed", ("setup", "value"), ((SETUP, ("free", 1, 7)),)),
    ("setups", "check_letter", ("setup", "value"), ((SETUP, (3, ("note", 7))),)),
    ("setups", "check_frame", ("setup", "value"), ((SETUP, FRAME),)),
)

# Functions whose last argument, or only one, may be any value, and what they then may raise.
OF_ANY_VALUE = (
    ("words", "need_octets", (), errors.BadOctets), ("forms", "is_value", (), ()), ("forms", "is_row", (), ()),
    ("forms", "write_value", (), errors.Refused), ("forms", "value_length", (), errors.Refused),
    ("forms", "write_row", (), errors.BadRow), ("forms", "whole_value", (), (errors.BadOctets, errors.Broken)),
    ("forms", "read_value", (ROW,), (errors.Refused, errors.Broken)),
    ("forms", "read_row", (ROW,), (errors.Refused, errors.Broken)),
    ("forms", "read_rows", (), (errors.BadOctets, errors.Broken)),
    ("forms", "healing", (), (errors.BadOctets, errors.Broken)),
    ("chains", "check_chain", (), errors.Refused), ("chains", "chain_holds", (CHAIN,), ()),
    ("spans", "check_span", (), errors.Refused), ("spans", "are_nested", (), ()),
    ("spans", "values_for", (), errors.Refused), ("spans", "total", (), errors.Refused),
    ("spans", "rest", (SPAN,), errors.Refused), ("spans", "join", (SPAN,), errors.Refused),
    ("spans", "span_of", (3,), errors.Refused), ("shapes", "is_shape", (2, 5), ()),
    ("stores", "is_store", (2,), ()), ("values", "check_told_spans", (), errors.Refused),
    ("values", "span_quarrel", (), errors.Refused), ("values", "values_fit", (TOLD,), ()),
    ("setups", "check_setup", (), errors.BadSetup), ("setups", "check_deed", (SETUP,), errors.Refused),
    ("setups", "check_letter", (SETUP,), errors.Refused), ("setups", "check_frame", (SETUP,), errors.BadFrame),
)


def function_of(module, name):
    return getattr(importlib.import_module("farstory." + module), name)


def all_calls():
    for module, name, parameters, calls in CALLS:
        for args in calls:
            yield function_of(module, name), parameters, args


class Interface(Case):
    def test_defined_where_it_is_listed(self):
        for module, name, _, _ in CALLS:
            self.assertEqual(function_of(module, name).__module__, "farstory." + module)
            self.assertTrue(inspect.isfunction(function_of(module, name)))
            self.assertEqual(function_of(module, name).__name__, name)

    def test_names_of_parameters(self):
        for module, name, parameters, _ in CALLS:
            told = inspect.signature(function_of(module, name)).parameters
            self.assertEqual(tuple(told), parameters, name)
            for parameter in told.values():
                self.assertEqual(parameter.kind, inspect.Parameter.POSITIONAL_OR_KEYWORD, name)
                self.assertIs(parameter.default, inspect.Parameter.empty, name)


class AllCalls(Case):
    def test_by_position_and_by_names(self):
        for function, parameters, args in all_calls():
            self.same(function(**dict(zip(parameters, args))), function(*args))

    def test_lists_for_tuples(self):
        for function, _, args in all_calls():
            self.same(function(*lists(args)), function(*args))

    def test_tuples_are_returned(self):
        for function, _, args in all_calls():
            found = function(*lists(args))
            self.same(found, tuples(found))

    def test_arguments_stay(self):
        for function, _, args in all_calls():
            passed = lists(args)
            kept = copy.deepcopy(passed)
            function(*passed)
            self.same(passed, kept)

    def test_later_changes_have_no_effect(self):
        for function, _, args in all_calls():
            passed = lists(args)
            found = function(*passed)
            told = repr(found)
            for value in passed:
                if isinstance(value, list):
                    for part in value:
                        if isinstance(part, list):
                            part.clear()
                    value.clear()
            self.assertEqual(repr(found), told)

    def test_again_whatever_was_called_between(self):
        first = [repr(function(*args)) for function, _, args in all_calls()]
        for module, name, ahead, _ in OF_ANY_VALUE:
            for value in ODD:
                try:
                    function_of(module, name)(*ahead, value)
                except (ValueError, KeyError):
                    pass
        again = [repr(function(*args)) for function, _, args in list(all_calls())[::-1]]
        self.assertEqual(again[::-1], first)

    def test_no_bool_is_an_integer(self):
        from farstory import forms, spans
        for value in (1, True, 1, False, 0):
            self.assertIs(forms.is_value(value), not isinstance(value, bool))
            self.assertIs(spans.are_nested([(0, 1, value, value, value)]), not isinstance(value, bool))


class AnyValue(Case):
    def test_only_what_is_described_is_raised(self):
        deep = [nested(depth) for depth in (2, 39, 40, 41, 50)]
        for module, name, ahead, described in OF_ANY_VALUE:
            for value in ODD + tuple(deep) + tuple(lists(deep)) + ((errors.NoRow(3),) * 5, [None] * 3, ("", "", "")):
                try:
                    found = function_of(module, name)(*ahead, value)
                except described:
                    continue
                self.same(found, tuples(found))

    def test_whether_is_a_bool(self):
        for module, name, ahead, described in OF_ANY_VALUE:
            if described == ():
                for value in ODD:
                    self.assertIn(repr(function_of(module, name)(*ahead, value)), ("True", "False"))

    def test_what_is_refused_is_kept_itself(self):
        for module, name, ahead, described in OF_ANY_VALUE:
            if described is errors.Refused:
                for value in ([[[True]]], errors.Refused(0), [None, [True]], "A"):
                    with self.assertRaises(errors.Refused) as caught:
                        function_of(module, name)(*ahead, value)
                    self.assertIs(caught.exception.at, value)


class Limits(Case):
    """Where a point names a limit of its own, its tests are with it."""

    def test_forms(self):
        from farstory import forms
        row = ("r",) + ("a" * 4000, 256 ** 199) * 4 + ((None,) * 3000,)
        octets = forms.write_row(row)
        self.assertGreater(len(octets), 19000)
        self.same(forms.read_rows(octets), ((row,), len(octets)))
        self.same(forms.whole_value(octets), row)
        self.assertEqual(forms.value_length(row), len(octets))
        self.same(forms.read_rows(octets[:-1]), ((), 0))
        self.same(forms.healing(octets[:-1]), (0,))
        small = forms.write_row(("",)) * 4000
        self.assertEqual(forms.read_rows(small), ((("",),) * 4000, 20000))
        self.same(forms.healing(small + (4, 1)), (1, 3, 0))
