"""[2]: for each function: lists for tuples, names for positions, arguments left alone, new lists each time."""

import copy
import importlib
import inspect
import unittest

from anydlooks.closed import closed_tables
from anydlooks.each import reach
from anydlooks.least import least_relations
from anydlooks.times import times_paper
from samples import (
    bus, crowd, deep, four, half, host, hum, late, mask, masked, meet, over, pair, renew, small, still, thrice, tiny, turned, twin,
)
from test_language import INTERFACE

THREE = ((1, 2, 0), (2, 1, 0), (0, 1, 1))
BOTH = (((1, "put"), 1), ((2, "put"), 1))
TWO = ((2, "put"), (3, "put"))
STEP = (((0, 0, 0), (1, 0, 0), 1), ((0, 0, 0), (1, 0, 1), 1), ((1, 0, 0), (1, 0, 0), 0))
PLAN = ((0, "put"), ((), ((2, "turn"), ((), ()))))
QUIET = ("quiet", bus, crowd, (1,))
TEXT = "prime 2\nregister -\nregister 0\nsort put 1\nshare 0 1\nblock\none\ncall 0 1\nor\nset 0 0:1+1:1\nend\n"
FRESH = (2, 1, (0,), ((("many", (("set", 0, ((0, 1),)), ("renew", 0))),),))
READ = (((0, "read", (1, 1)), 2),)

# The arguments by their names, in the order in which they stand.
CALLS = {
    "residues": {
        "is_row": dict(thing=(1, 2), prime=3, length=2), "inverse": dict(prime=5, residue=3),
        "row_by": dict(prime=3, rows=THREE, factors=(1, 2, 1), length=3), "product": dict(prime=3, row=THREE[0], other=THREE[1]),
        "basis": dict(prime=3, rows=THREE), "rank": dict(prime=3, rows=THREE),
        "rest_of": dict(prime=3, row=(1, 1, 1), rows=THREE), "is_within": dict(prime=3, rows=THREE[:1], others=THREE),
        "members": dict(prime=3, rows=THREE, length=3), "factors_for": dict(prime=3, row=(1, 0, 1), rows=THREE),
        "relations": dict(prime=3, rows=THREE), "across": dict(prime=3, rows=THREE, length=3),
        "common": dict(prime=3, rows=THREE[:2], others=THREE[1:]),
        "solution": dict(prime=3, rows=THREE, goals=(1, 2, 0), length=3), "refusal": dict(prime=3, rows=THREE, goals=(1, 0, 0)),
    },
    "programs": {
        "is_machine": dict(thing=small), "is_program": dict(thing=deep), "is_way": dict(machine=small, many=1, thing=()),
        "sizes": dict(program=bus), "on_bus": dict(program=bus, bus=0), "items_of": dict(program=deep),
        "item_at": dict(program=deep, path=(1, 0, 1, 1)),
        "replaced": dict(program=deep, path=(1, 0, 1, 1), items=(("set", 0, ((0, 1),)), ("one", ((), (("draw", 1),))))),
        "writers": dict(program=deep, slot=2), "readers": dict(program=deep, slot=2), "block_calls": dict(program=deep),
        "rings": dict(program=deep), "fruitful": dict(program=deep), "reached": dict(program=deep),
        "is_clean": dict(program=deep), "shortest": dict(program=deep), "longest": dict(program=renew),
    },
    "runs": {
        "is_run": dict(program=deep, thing=(1, 0)), "lines_of": dict(program=deep, run=(1, 0)),
        "line_paths": dict(program=deep, run=(1, 0)), "choices_of": dict(program=deep, run=(1, 0)),
        "asked": dict(program=deep, row=(1,)), "sure_lines": dict(program=deep, row=(1,)),
        "finished": dict(program=deep, row=(1, 1)), "least_run": dict(program=deep),
        "least_run_at": dict(program=deep, path=(1, 0, 1, 1)), "runs_to": dict(program=deep, many=9),
        "run_counts": dict(program=deep, many=9), "lies": dict(program=deep, run=(1, 0), number=4),
    },
    "forms": {
        "sources": dict(program=deep, run=(1, 0)), "written": dict(program=deep, run=(1, 0)),
        "spreads_at": dict(program=deep, run=(1, 0), number=5), "is_mark": dict(program=deep, run=(1, 0), thing=(0, "put")),
        "marks_at": dict(program=thrice, run=(), number=0), "is_looks": dict(program=deep, run=(1, 0), thing=((0, "put"),)),
        "looks_of": dict(terms=READ), "price_of": dict(machine=thrice[0], looks=(READ[0][0],)),
        "shown": dict(program=thrice, run=(), mark=READ[0][0]), "sum_shown": dict(program=thrice, run=(), terms=READ),
        "row_form": dict(program=renew, run=(), row=(1, 1, 1, 0, 0)), "is_telling": dict(program=deep, thing=((1, 0), BOTH)),
        "form_told": dict(program=deep, telling=((1, 0), BOTH)), "played": dict(program=deep, run=(1, 0), values=(1, 0, 1)),
        "seen_by": dict(program=deep, run=(1, 0), looks=((1, "put"), (2, "put")), values=(1, 0, 1)),
        "secrets_of": dict(program=deep, run=(1, 0), values=(1, 0, 1)),
    },
    "chances": {
        "tells": dict(program=renew, run=(), looks=TWO), "told_forms": dict(program=bus, run=(), looks=((1, "pass"),)),
        "telling_by": dict(program=bus, run=(), looks=((1, "pass"),), form=(1,)), "cover": dict(program=renew, run=(), looks=TWO),
        "is_cover": dict(program=renew, run=(), looks=TWO, thing=((0, 0, 1, 0, 0),)),
        "rank_shown": dict(program=renew, run=(), looks=TWO), "outcomes": dict(program=renew, run=(), looks=TWO, secrets=(1,)),
        "chance": dict(program=renew, run=(), looks=TWO, secrets=(1,), residues=(0, 1)),
        "secrets_left": dict(program=renew, run=(), looks=TWO, residues=(0, 1)),
        "least_tellers": dict(program=turned, run=(1,), looks=((0, "put"), (1, "turn"), (2, "put"), (2, "turn"))),
        "is_look_plan": dict(program=turned, run=(1,), thing=PLAN),
        "plan_chances": dict(program=turned, run=(1,), plan=PLAN, secrets=(0,)),
        "plan_tells": dict(program=turned, run=(1,), plan=PLAN),
    },
    "askings": {
        "is_asking": dict(machine=small, thing=(0, 1, 1)), "nobody": dict(machine=small),
        "is_bad": dict(program=deep, asking=(1, 1, 0)), "form_of": dict(program=deep, asking=(1, 1, 0)),
        "walk_of": dict(program=deep, run=(1, 0), terms=BOTH), "draws_asked": dict(program=deep, run=(1, 0), terms=BOTH[:1]),
        "is_walk": dict(program=bus, run=(), thing=((0,) * 5,) * 3),
        "walk_terms": dict(program=deep, run=(1, 0), walk=((1, 1, 0), (1, 1, 0), (0, 1, 1)) + ((0, 0, 0),) * 3),
        "least_terms": dict(program=deep, run=(1, 0)), "least_told": dict(program=deep, run=(1, 0)),
        "told_walk": dict(program=deep, run=(1, 0)), "form_prices": dict(program=deep, run=(1, 0)),
    },
    "pieces": {
        "is_table": dict(machine=small, most=1, thing=STEP), "price_in": dict(table=STEP, ahead=(0, 0, 0), behind=(1, 0, 1)),
        "asked_ahead": dict(table=STEP, behind=(1, 0, 0)),
        "line_table": dict(machine=small, item=("set", 1, ((0, 1),)), most=3), "still_table": dict(machine=small),
        "joined": dict(one=STEP, other=STEP, most=2), "least_of": dict(tables=(STEP, STEP[:1])),
        "many_table": dict(machine=small, table=STEP, most=2), "times_table": dict(machine=small, table=STEP, many=5, most=2),
        "kept_table": dict(machine=small, kept=(0, 1), most=2),
        "call_table": dict(machine=small, kept=(0, 1), table=STEP, most=2),
        "way_table": dict(program=(small, ((0, 1),), ((),)), way=(("call", 0, (1,)), ("many", (("draw", 0),))), tables=(STEP,), most=2),
    },
}

TABLES = closed_tables(tiny, 1)
WAY = (("draw", 3), ("set", 0, ((0, 1), (3, 1))), ("set", 1, ((1, 1), (3, 1))))

CALLS.update({
    "closed": {
        "made_of": dict(program=tiny, tables=TABLES, most=1), "deep_tables": dict(program=tiny, most=1, many=2),
        "closed_tables": dict(program=tiny, most=1), "closing": dict(program=tiny, most=1),
        "are_closed": dict(program=tiny, most=1, thing=TABLES),
        "block_price": dict(program=tiny, number=1, ahead=(1, 0), behind=(0, 1), most=1),
        "bad_entries": dict(program=tiny, table=TABLES[0]), "withstands": dict(program=tiny, most=0),
        "shield": dict(program=tiny, most=0), "is_shield": dict(program=tiny, most=0, thing=closed_tables(tiny, 0)),
    },
    "least": {
        "least_price": dict(program=deep), "never_told": dict(program=half), "least_relations": dict(program=tiny),
        "are_relations": dict(program=tiny, thing=least_relations(tiny)), "never_paper": dict(program=half),
        "is_never_paper": dict(program=half, thing=least_relations(half)), "least_telling": dict(program=deep, most=2),
        "cheapest_telling": dict(program=deep), "fewest_lines": dict(program=deep, most=2),
        "line_steps": dict(program=deep, most=6),
        "run_between": dict(program=tiny, number=1, ahead=(1, 0), behind=(0, 1), most=1),
    },
    "sums": {
        "form_price": dict(program=twin, form=(0, 1)), "priced_forms": dict(program=twin), "forms_to": dict(program=twin, most=3),
        "form_telling": dict(program=twin, form=(1, 1), most=3),
        "is_form_telling": dict(program=deep, form=(1,), most=2, thing=((1, 0), BOTH)),
        "form_shield": dict(program=tiny, form=(1,), most=0),
        "is_form_shield": dict(program=tiny, form=(1,), most=0, thing=closed_tables(tiny, 0)),
        "together": dict(program=twin, forms=((0, 1), (1, 0)), most=4), "bundle": dict(program=twin, forms=((0, 1), (1, 0)), most=4),
        "is_bundle": dict(program=twin, forms=((0, 1),), most=2, thing=((), ((2, "put"), (3, "put")))),
        "learnt": dict(program=twin, most=3),
    },
    "times": {
        "price_times": dict(program=masked, path=(0, 0), many=10 ** 18), "times_prices": dict(program=masked, path=(0, 0), many=9),
        "times_form": dict(program=masked, path=(0, 0)),
        "is_times_form": dict(program=masked, path=(0, 0), thing=((1, 2), (1, 1))),
        "times_paper": dict(program=masked, path=(0, 0)),
        "is_times_paper": dict(program=masked, path=(0, 0), thing=times_paper(masked, (0, 0))),
        "told_times": dict(program=masked, path=(0, 0), most=2), "telling_times": dict(program=masked, path=(0, 0), many=3),
        "is_telling_times": dict(program=masked, path=(0, 0), many=2, thing=((2,), (((2, "turn"), 1), ((4, "turn"), 1)))),
        "unrolled": dict(program=masked, path=(0, 0), many=2),
    },
    "each": {
        "turns": dict(program=deep, run=(1, 1, 0)), "turn_count": dict(program=deep, run=(1, 1, 0)),
        "height": dict(program=deep, run=(1, 0), looks=((1, "put"), (2, "put"))), "least_height": dict(program=deep),
        "withstands_each": dict(program=renew, most=2), "reach": dict(program=tiny, most=0),
        "is_reach": dict(program=tiny, most=1, thing=reach(tiny, 1)), "each_telling": dict(program=deep, most=1),
        "is_each_telling": dict(program=turned, most=1, thing=((2,), (((1, "turn"), 1), ((5, "put"), 1)))),
    },
    "persons": {
        "is_persons": dict(program=bus, thing=crowd), "seen_marks": dict(program=bus, persons=crowd, group=(0, 2), run=()),
        "learns": dict(program=bus, persons=crowd, group=(0, 2)), "learnt_forms": dict(program=bus, persons=crowd, group=(0,)),
        "group_telling": dict(program=bus, persons=crowd, group=(1, 2)),
        "is_group_telling": dict(program=bus, persons=crowd, group=(1, 2), thing=((), (((0, "put"), 1), ((1, "put"), 1)))),
        "quiet_paper": dict(program=half, persons=((("put", 2),),), group=(0,)),
        "is_quiet_paper": dict(program=half, persons=((("put", 2),),), group=(0,), thing=least_relations(half)),
        "learning_groups": dict(program=bus, persons=crowd), "quiet_groups": dict(program=bus, persons=crowd),
        "groups_for": dict(program=bus, persons=crowd, form=(1,)), "rest_price": dict(program=bus, persons=crowd, group=(1,), most=3),
        "rest_telling": dict(program=bus, persons=crowd, group=(1,), most=3), "least_cuts": dict(program=bus, persons=crowd, group=(0, 1, 2)),
    },
    "draws": {
        "draws": dict(program=mask), "left_out": dict(program=mask, paths=((0, 0),)),
        "taken_from": dict(program=mask, path=(0, 0), slot=1), "can_go": dict(program=mask, most=0),
        "greatest_spared": dict(program=mask, most=1), "fewest_draws": dict(program=mask, most=1),
        "sources_for": dict(program=mask, path=(0, 0), most=1), "with_fewest": dict(program=mask, most=1),
        "comes_of": dict(program=mask, thing=mask),
    },
    "renewals": {
        "renewal": dict(machine=four, registers=(0, 1), slot=3), "keeps_sum": dict(machine=four, registers=(0, 1), way=WAY),
        "renews": dict(machine=four, registers=(0, 1), way=WAY), "how_free": dict(machine=four, registers=(0, 1), way=WAY),
        "spots": dict(program=deep), "put_in": dict(program=still, path=(0, 1), way=WAY),
        "renewed": dict(program=deep, paths=((1, 0, 0, 0), (1, 0, 1, 2)), registers=(0, 1), slot=2),
        "helping": dict(program=over, registers=(0, 1), slot=3, most=1), "harming": dict(program=still, registers=(0, 1), slot=3, most=2),
        "fewest_renewals": dict(program=over, registers=(0, 1), slot=3, most=1, many=2),
    },
    "places": {
        "are_free": dict(program=late, path=(0, 1)), "swapped": dict(program=late, path=(0, 1)), "orders": dict(program=late, block=0),
        "in_order": dict(program=late, block=0, order=(0, 2, 1)), "best_orders": dict(program=late, block=0, most=3),
        "clash": dict(program=pair, slot=1, other=2), "is_clash": dict(program=pair, slot=1, other=2, thing=((), 0, 1)),
        "merged": dict(program=pair, slot=2, other=3), "merged_prices": dict(program=pair, most=3),
        "laid": dict(program=hum, slot=1, bus=1), "best_laid": dict(program=hum, many=2, most=3),
    },
    "exchange": {
        "mended": dict(program=meet, block=1), "may_stand": dict(program=meet, block=2, other=1),
        "first_less": dict(program=meet, block=0, other=3), "stand_pairs": dict(program=meet), "alike_blocks": dict(program=meet),
        "host_against": dict(program=meet, block=2, other=3), "is_host_against": dict(program=meet, block=2, other=3, thing=host),
        "nowhere_less": dict(program=meet, block=2, other=1), "is_host": dict(program=meet, thing=host),
        "hosted": dict(program=meet, host=host, block=2),
    },
    "sharing": {
        "end_form": dict(program=renew, run=(), row=(1, 1, 1, 0, 0)), "end_forms": dict(program=turned, row=(0, 0, 0, 1)),
        "end_run": dict(program=turned, row=(0, 0, 0, 1), ending=(0,)), "are_parts": dict(program=renew, places=(0, 1, 2)),
        "part_sets": dict(program=bus), "parts_bar": dict(program=bus, places=(0, 2)),
        "is_parts_bar": dict(program=deep, places=(0, 2), thing=(((0,),), (1, 0, 1))),
        "dealt_anew": dict(program=renew, places=(0, 1, 2), others=(3, 4), style="chain"),
        "added": dict(program=bus, places=(2, 3), others=(0, 1), factor=1),
    },
    "sources": {
        "is_source": dict(thing=FRESH), "source_lines": dict(source=FRESH, run=(2,)), "cell_forms": dict(source=FRESH, run=(2,)),
        "cell_ends": dict(source=FRESH, cell=0), "compiled": dict(source=FRESH, sorts=(("put", 1), ("turn", 2)), many=2, style="lanes"),
        "lines_from": dict(source=FRESH, run=(2,), many=3), "cells_of": dict(source=FRESH, many=3, registers=(1, 0, 1, 1)),
        "least_parts": dict(source=FRESH, sorts=(("put", 1), ("turn", 2)), style="apart", most=1),
        "with_renew": dict(source=FRESH, path=(0, 0, 1), cell=0),
    },
    "judge": {
        "is_claim": dict(thing=QUIET), "stands": dict(claim=QUIET), "paper_against": dict(claim=("hides", bus, (), ((1, "pass"),))),
        "is_paper_against": dict(claim=("safe", deep, 2), thing=((1, 0), BOTH)), "reason_for": dict(claim=QUIET),
        "is_reason_for": dict(claim=("hides", renew, (), TWO), thing=((0, 0, 1, 0, 0),)),
        "first_fallen": dict(claims=(QUIET, ("safe", deep, 1), ("form", twin, (0, 1), 2))),
    },
    "texts": {
        "run_word": dict(run=(1, 0)), "sum_word": dict(pairs=((0, 1), (2, 2))), "program_text": dict(program=deep),
        "telling_text": dict(telling=((), READ)), "run_read": dict(word="1,0"), "sum_read": dict(word="0:1+2:2"),
        "read_program": dict(text=TEXT), "read_telling": dict(text="run -\nlook 0 read 0,1 2"),
    },
    "desk": {
        "is_request": dict(thing="put 0,0 set 2 0:1"), "replies": dict(program=bus, text="watch - 1\nbroken\ncheapest"),
    },
})

# Pairs of something and of a list.
WITH_LISTS = ("best_orders", "best_laid")
LISTS = ("replies", "source_lines", "cell_forms", "lines_from", "alike_blocks", "orders", "merged_prices", "priced_forms", "learnt", "times_prices", "learning_groups", "quiet_groups", "groups_for", "least_cuts", "items_of", "runs_to", "run_counts", "least_tellers", "draws_asked", "form_prices", "asked_ahead")

RAISING = (
    ("closed", "shield", dict(program=deep, most=2)),
    ("closed", "block_price", dict(program=tiny, number=2, ahead=(0, 0), behind=(0, 0), most=1)),
    ("least", "never_paper", dict(program=tiny)),
    ("least", "run_between", dict(program=tiny, number=-1, ahead=(0, 0), behind=(0, 0), most=1)),
    ("sums", "form_shield", dict(program=deep, form=(1,), most=2)),
    ("times", "times_form", dict(program=masked, path=(0, 2))), ("times", "unrolled", dict(program=masked, path=(0, 1), many=2)),
    ("each", "height", dict(program=deep, run=(0,), looks=((0, "pass"),))), ("each", "turns", dict(program=deep, run=(1,))),
    ("persons", "learns", dict(program=bus, persons=crowd, group=(1, 4))),
    ("persons", "seen_marks", dict(program=bus, persons=crowd, group=(1,), run=(0,))),
    ("draws", "left_out", dict(program=mask, paths=((0, 0), (0, 1)))),
    ("draws", "taken_from", dict(program=mask, path=(0, 0), slot=3)),
    ("renewals", "renewal", dict(machine=four, registers=(0, 1), slot=1)),
    ("renewals", "put_in", dict(program=still, path=(0, 2), way=WAY)),
    ("renewals", "renewed", dict(program=still, paths=((0, 1), (7, 7)), registers=(0, 1), slot=3)),
    ("places", "swapped", dict(program=late, path=(0, 0, 1))), ("places", "merged", dict(program=pair, slot=1, other=2)),
    ("exchange", "mended", dict(program=thrice, block=0)), ("exchange", "hosted", dict(program=meet, host=host, block=4)),
    ("exchange", "host_against", dict(program=meet, block=0, other=9)),
    ("sharing", "end_run", dict(program=deep, row=(1, 1, 0), ending=(0,))), ("sharing", "end_form", dict(program=deep, run=(2,), row=(1, 1, 0))),
    ("sharing", "added", dict(program=bus, places=(0, 1), others=(1, 2), factor=1)),
    ("sharing", "parts_bar", dict(program=bus, places=(0, 7))),
    ("sharing", "dealt_anew", dict(program=bus, places=(0, 1), others=(2, 3), style="anew")),
    ("judge", "stands", dict(claim=("safe", deep, -1))), ("judge", "first_fallen", dict(claims=(QUIET, ("quiet", bus, crowd, (3,))))),
    ("texts", "read_program", dict(text=TEXT + "or")), ("texts", "read_program", dict(text=TEXT.replace("0:1", "5:1"))),
    ("texts", "read_telling", dict(text="run -\n\n")), ("desk", "replies", dict(program=bus, text="cost\n")),
    ("sources", "cell_ends", dict(source=FRESH, cell=1)), ("sources", "compiled", dict(source=FRESH, sorts=(("put", 1),), many=9, style="apart")),
    ("sources", "least_parts", dict(source=FRESH, sorts=(("put", 1),), style="apart", most=6)),
    ("sources", "with_renew", dict(source=FRESH, path=(0, 1, 0), cell=0)), ("sources", "source_lines", dict(source=FRESH, run=())),
    ("places", "laid", dict(program=hum, slot=1, bus=2)), ("places", "in_order", dict(program=pair, block=1, order=(0, 1))),
)

TRUTHS = ("stands", "tells", "plan_tells", "withstands", "never_told", "withstands_each", "learns", "comes_of", "keeps_sum", "renews", "may_stand", "nowhere_less")


def listed(value):
    return [listed(own) for own in value] if isinstance(value, tuple) else value


def mixed(value, deep_down=True):
    """Lists for tuples at every second depth."""
    if not isinstance(value, tuple):
        return value
    inner = [mixed(own, not deep_down) for own in value]
    return inner if deep_down else tuple(inner)


def has_list(value):
    return isinstance(value, list) or isinstance(value, tuple) and any(has_list(own) for own in value)


class General(unittest.TestCase):

    def each(self):
        for module, calls in CALLS.items():
            self.assertEqual(sorted(calls), sorted(INTERFACE[module].split()))
            for word, arguments in calls.items():
                yield word, getattr(importlib.import_module("anydlooks." + module), word), arguments

    def test_names(self):
        for word, function, arguments in self.each():
            self.assertEqual(list(inspect.signature(function).parameters), list(arguments), word)
            self.assertEqual(repr(function(**arguments)), repr(function(*arguments.values())), word)

    def test_lists(self):
        for word, function, arguments in self.each():
            wanted = repr(function(**arguments))
            for style in (listed, mixed, lambda value: mixed(value, False)):
                given = {name: own if name == "thing" else style(own) for name, own in arguments.items()}
                before = copy.deepcopy(given)
                self.assertEqual(repr(function(**given)), wanted, word)
                self.assertEqual(repr(given), repr(before), word)
                self.assertEqual(repr(function(**given)), wanted, word)

    def test_kinds(self):
        for word, function, arguments in self.each():
            result = function(**arguments)
            if word in LISTS:
                self.assertIs(type(result), list, word)
                self.assertFalse(has_list(tuple(result)), word)
                result.append("more")
                self.assertNotEqual(function(**arguments), result, word)
            elif word in WITH_LISTS:
                self.assertIs(type(result[1]), list, word)
                self.assertFalse(has_list((result[0], *result[1])), word)
            else:
                self.assertFalse(has_list(result), word)
            if word.startswith(("is_", "are_")) or word in TRUTHS:
                self.assertIn(result, (True, False))
                self.assertIs(type(result), bool, word)

    def test_things_are_no_lists(self):
        for word, function, arguments in self.each():
            if "thing" in arguments:
                self.assertIs(function(**arguments), True, word)
                if arguments["thing"] != () and not isinstance(arguments["thing"], str):
                    given = dict(arguments, thing=listed(arguments["thing"]))
                    self.assertIs(function(**given), False, word)

    def test_calls_that_raise(self):
        """They leave their arguments as they were, too."""
        for module, word, arguments in RAISING:
            function = getattr(importlib.import_module("anydlooks." + module), word)
            given = {name: listed(own) for name, own in arguments.items()}
            before = copy.deepcopy(given)
            for _ in range(2):
                with self.assertRaises((LookupError, ValueError)) as caught:
                    function(**given)
                self.assertTrue(type(caught.exception).__module__ == "anydlooks.errors", word)
                self.assertFalse(has_list(tuple(vars(caught.exception).values())), word)
            self.assertEqual(repr(given), repr(before), word)

    def test_odd_things(self):
        odd = [None, True, False, 0, -1, 10 ** 1000, -10 ** 1000, "", "set", "a" * 10000, [], [[]], ((),), (None,) * 3, (0,) * 5000]
        thing, other = (), []
        for _ in range(29):
            thing, other = (thing,), [other]
        odd += [thing, other, (thing, other, True), tuple(odd), list(odd)]
        for word, function, arguments in self.each():
            if "thing" in arguments:
                for own in odd:
                    self.assertIs(type(function(**dict(arguments, thing=own))), bool, word)


if __name__ == "__main__":
    unittest.main()
