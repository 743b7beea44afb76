"""Points 1 and 2: the rules that hold for every function."""

import copy
import inspect
import itertools

from aliasrows import beside, desk, more, moved, needless, orders, plainrow, probes, readings, rows, samenesses, sure
from aliasrows import tables, texts
from aliasrows.errors import BadLine, BadText, CanNot, Known, NoName, NoNumber, NoSpot, Unfit
from tests.helper import Case, as_lists, in_turns, some_rows, told_by
from tests.test_interface import FUNCTIONS

TABLE = (("a", "b", "c", "d"), (("a", "b"),), (("b", "c"),))
OTHER = (("a", "b", "c", "d"), (("a", "b"),), (("a", "c"), ("b", "c")))
ROW = (("put", "a", 5), ("get", "d", "s"), ("put", "c", 7), ("get", "b", "t"), ("put", "d", 7))
NEAR, FAR, APART = (("a", "b"), ("c", "d")), (("a", "b", "d"), ("c",)), (("a", "b"), ("c",), ("d",))
NEAR_OUTCOME = ((("t", 5),), (("a", 5), ("b", 5), ("c", 7), ("d", 7)))
ONE_NAME = {"table": TABLE, "name": "a"}
TWO_NAMES = {"table": TABLE, "one": "d", "other": "a"}
BY = {"table": TABLE, "row": ROW, "sameness": NEAR}
OF_ROW = {"table": TABLE, "row": ROW}
SECOND = (("put", "c", 7), ("get", "d", "s"), ("put", "d", 7), ("get", "a", "t"), ("put", "b", 5))
BOTH = {"table": TABLE, "row": ROW, "second": SECOND}
AHEAD = (("get", "b", "u"), ("put", "d", 8))
ORDER, TURNED = ("a", "c", "b", "d"), ("c", "a", "b", "d")
POINTING = (("b", "c", "d"), (("b", "d"), ("c", "d")))
OF_SOME = {"table": TABLE, "some": ("a", "b", "c", "d")}
TWO_ORDERS = {"table": TABLE, "one": ORDER, "other": TURNED}
ECHO = {"table": TABLE,
        "row": (("put", "d", 5), ("put", "a", 5), ("put", "b", 5), ("get", "a", "s"), ("get", "b", "t"))}
MOVING = (("put", "a", 1), ("get", "c", "x"), ("put", "d", 2), ("get", "b", "y"), ("put", "c", 2))
MOVED = (MOVING[1], *MOVING[:1], MOVING[2], MOVING[4], MOVING[3])
OF_MOVING = {"table": TABLE, "row": MOVING}
TWO_ROWS = {"table": TABLE, "one": MOVING, "other": MOVED}
DEEDS = (("get", "a", "s"), ("put", "a", 1), ("put", "c", 2), ("put", "d", 1))
FACTS = (("apart", "a", "d"), ("one", "c", "d"))
AT_Y = {**OF_MOVING, "spot": "y"}
PROBE = (("put", "d", 0), ("put", "a", 1), ("put", "c", 2), ("get", "d", "d"))
READINGS = ((MOVING, (("y", 1),)), (PROBE, (("d", 2),)), ((("put", "a", 0), ("get", "b", "t")), (("t", 0),)))
READ = {"table": TABLE, "readings": READINGS}
READ_ONE = {"table": TABLE, "readings": READINGS[::2]}

# For each function what it is handed, by the names of points 4 to 18, in their order.
CALLS = (
    (tables.is_table, {"thing": TABLE}),
    (tables.names_of, {"table": TABLE}),
    (tables.lumps, {"table": TABLE}),
    (tables.lump_of, ONE_NAME),
    (tables.surely_one, TWO_NAMES),
    (tables.surely_apart, {"table": TABLE, "one": "a", "other": "c"}),
    (tables.may_be_one, TWO_NAMES),
    (tables.told_of, TWO_NAMES),
    (tables.maybe_with, ONE_NAME),
    (tables.open_pairs, {"table": TABLE}),
    (tables.with_name, {"table": TABLE, "name": "aa"}),
    (tables.without_name, ONE_NAME),
    (tables.with_one, TWO_NAMES),
    (tables.with_apart, TWO_NAMES),
    (tables.without_pair, {"table": TABLE, "one": "b", "other": "a"}),
    (tables.renamed, {"table": TABLE, "pairs": (("a", "z"), ("q", "b"), ("b", "a"))}),
    (tables.filled, {"table": TABLE}),
    (tables.same_tables, {"table": TABLE, "second": OTHER}),
    (samenesses.is_sameness, {"table": TABLE, "thing": NEAR}),
    (samenesses.finest, {"table": TABLE}),
    (samenesses.coarsest, {"table": TABLE}),
    (samenesses.all_samenesses, {"table": TABLE}),
    (samenesses.how_many_samenesses, {"table": TABLE}),
    (samenesses.nth_sameness, {"table": TABLE, "number": 1}),
    (samenesses.number_of_sameness, {"table": TABLE, "sameness": FAR}),
    (samenesses.how_many_with, {"table": TABLE, "many": 2}),
    (samenesses.fewest_cells, {"table": TABLE}),
    (samenesses.a_fewest, {"table": TABLE}),
    (samenesses.cell_of, {"table": TABLE, "sameness": NEAR, "name": "c"}),
    (samenesses.are_one, {"table": TABLE, "sameness": NEAR, "one": "c", "other": "d"}),
    (samenesses.joined_by, {"table": TABLE, "some": ("a", "d")}),
    (samenesses.can_join, {"table": TABLE, "some": ("a", "d")}),
    (samenesses.great_joins, {"table": TABLE}),
    (samenesses.lies_within, {"first": APART, "second": NEAR}),
    (samenesses.met, {"first": NEAR, "second": FAR}),
    (samenesses.put_as_one, {"table": TABLE, "first": APART, "second": NEAR}),
    (samenesses.between, {"table": TABLE, "first": APART, "second": NEAR}),
    (rows.is_row, {"table": TABLE, "thing": ROW}),
    (rows.names_in, {"row": ROW}),
    (rows.spots_of, {"row": ROW}),
    (rows.puts_of, {"row": ROW}),
    (rows.gets_of, {"row": ROW}),
    (rows.outcome, BY),
    (rows.told_at, {**BY, "spot": "t"}),
    (rows.left_at, {**BY, "name": "c"}),
    (rows.left_along, BY),
    (rows.read_from, {**BY, "spot": "t"}),
    (rows.left_from, {**BY, "name": "c"}),
    (rows.lost_puts, BY),
    (rows.all_outcomes, {"table": TABLE, "row": ROW}),
    (rows.how_many_outcomes, {"table": TABLE, "row": ROW}),
    (rows.samenesses_for, {"table": TABLE, "row": ROW, "pair": NEAR_OUTCOME}),
    (rows.row_behind, {"first": ROW, "second": (("get", "c", "u"), ("put", "a", 0))}),
    (rows.without_places, {"row": ROW, "places": (1, 3)}),
    (rows.beginnings, {"row": ROW}),
    (sure.seen_at, {**OF_ROW, "spot": "t"}),
    (sure.seen_left, {**OF_ROW, "name": "d"}),
    (sure.empty_at, {**OF_ROW, "spot": "s"}),
    (sure.empty_left, {**OF_ROW, "name": "c"}),
    (sure.values_at, {**OF_ROW, "spot": "s"}),
    (sure.values_left, {**OF_ROW, "name": "a"}),
    (sure.sure_spots, OF_ROW),
    (sure.sure_names, OF_ROW),
    (sure.sure_told, OF_ROW),
    (sure.spots_seeing, {**OF_ROW, "place": 0}),
    (sure.names_seeing, {**OF_ROW, "place": 4}),
    (sure.never_seen, OF_ROW),
    (sure.tellings, {**OF_ROW, "spot": "s"}),
    (sure.how_many_tell, {**OF_ROW, "spot": "s", "value": 5}),
    (sure.sameness_for, {**OF_ROW, "spot": "s", "value": None}),
    (sure.sameness_left, {**OF_ROW, "name": "a", "value": 7}),
    (sure.is_sameness_for, {**OF_ROW, "spot": "s", "value": None, "thing": NEAR}),
    (sure.is_sameness_left, {**OF_ROW, "name": "a", "value": 7, "thing": FAR}),
    (beside.same_rows, BOTH),
    (beside.parting, BOTH),
    (beside.is_parting, {**BOTH, "thing": FAR}),
    (beside.partings, BOTH),
    (beside.fewest_joined, BOTH),
    (beside.alike_spots, BOTH),
    (beside.alike_names, BOTH),
    (beside.unlike_spots, BOTH),
    (beside.unlike_names, BOTH),
    (beside.tells_as_much, BOTH),
    (beside.untold_pair, BOTH),
    (beside.is_untold_pair, {**BOTH, "thing": (APART, NEAR)}),
    (beside.same_whatever, BOTH),
    (beside.parting_ahead, BOTH),
    (beside.is_parting_ahead, {**BOTH, "thing": AHEAD}),
    (orders.is_order, {"table": TABLE, "thing": ORDER}),
    (orders.row_of_order, {"table": TABLE, "order": ORDER}),
    (orders.pointing_of, {"table": TABLE, "order": ORDER}),
    (orders.is_pointing, {"table": TABLE, "thing": POINTING}),
    (orders.orders_same, TWO_ORDERS),
    (orders.parting_sameness, {"table": TABLE, "one": ORDER, "other": ("d", "a")}),
    (orders.is_parting_sameness, {"table": TABLE, "one": ORDER, "other": ("d", "a"), "thing": NEAR}),
    (orders.all_pointings, OF_SOME),
    (orders.how_many_pointings, OF_SOME),
    (orders.nth_pointing, {**OF_SOME, "number": 3}),
    (orders.number_of_pointing, {**OF_SOME, "pointing": POINTING}),
    (orders.least_order, {**OF_SOME, "pointing": POINTING}),
    (orders.how_many_orders, {**OF_SOME, "pointing": POINTING}),
    (orders.fewest_turns, TWO_ORDERS),
    (orders.turn_way, TWO_ORDERS),
    (orders.is_turn_way, {**TWO_ORDERS, "thing": (ORDER, TURNED)}),
    (orders.free_places, {"table": TABLE, "order": ORDER}),
    (needless.can_go, {**ECHO, "places": (1,)}),
    (needless.is_needless, {**ECHO, "place": 2}),
    (needless.needless_places, ECHO),
    (needless.needed_by, {**OF_ROW, "place": 4}),
    (needless.is_needed_by, {**OF_ROW, "place": 4, "thing": FAR}),
    (needless.all_that_go, ECHO),
    (needless.full_sets, ECHO),
    (needless.always_stay, ECHO),
    (needless.most_gone, ECHO),
    (needless.least_rest, ECHO),
    (needless.dearest_gone, {**ECHO, "prices": (3, 0, 4, 9, 9)}),
    (needless.all_rests, ECHO),
    (needless.gone_by_turns, {**ECHO, "turns": (4, 2, 1, 0)}),
    (needless.twin_spots, ECHO),
    (needless.spare_gets, ECHO),
    (moved.can_pass, {"table": TABLE, "deed": MOVING[0], "second": MOVING[1]}),
    (moved.exchanged, {**OF_MOVING, "place": 0}),
    (moved.passing_places, OF_MOVING),
    (moved.keeps, {**OF_MOVING, "place": 2}),
    (moved.are_alike, TWO_ROWS),
    (moved.exchanges_between, TWO_ROWS),
    (moved.way_between, TWO_ROWS),
    (moved.is_way_between, {**TWO_ROWS, "thing": (MOVING, (MOVING[1], MOVING[0], *MOVING[2:]), MOVED)}),
    (moved.held_pairs, OF_MOVING),
    (moved.longest_held, OF_MOVING),
    (moved.deed_places, {**OF_MOVING, "deed": MOVING[4]}),
    (moved.is_steps, {**OF_MOVING, "thing": ((0, 1), (2, 4), (3,))}),
    (moved.fewest_steps, OF_MOVING),
    (moved.first_steps, OF_MOVING),
    (moved.last_steps, OF_MOVING),
    (plainrow.plain_row, OF_MOVING),
    (plainrow.is_plain, {"table": TABLE, "row": MOVED}),
    (plainrow.how_many_alike, OF_MOVING),
    (plainrow.nth_alike, {**OF_MOVING, "number": 2}),
    (plainrow.number_alike, {**OF_MOVING, "other": MOVED}),
    (plainrow.alike_rows, OF_MOVING),
    (plainrow.how_many_at, {**OF_MOVING, "deed": MOVING[1], "place": 0}),
    (plainrow.how_many_forms, {"table": TABLE, "deeds": DEEDS}),
    (plainrow.forms, {"table": TABLE, "deeds": DEEDS}),
    (plainrow.is_form, {"table": TABLE, "deeds": DEEDS, "thing": DEEDS}),
    (plainrow.plain_joined, {"table": TABLE, "one": MOVING[2:], "other": MOVING[:2]}),
    (plainrow.begins_with, {**OF_MOVING, "one": MOVED[:2]}),
    (plainrow.rest_behind, {**OF_MOVING, "one": MOVED[:2]}),
    (plainrow.plain_begun, OF_MOVING),
    (plainrow.common_beginning, {"table": TABLE, "one": MOVING, "other": MOVED[:3]}),
    (more.is_fact, {"table": TABLE, "thing": FACTS[0]}),
    (more.are_facts, {"table": TABLE, "thing": FACTS}),
    (more.told_more, {"table": TABLE, "facts": FACTS}),
    (more.needless_facts, {"table": TABLE, "facts": FACTS}),
    (more.can_tell, {**AT_Y, "value": 2}),
    (more.is_sure_of, {**OF_MOVING, "spot": "x", "value": None}),
    (more.sure_with, {**AT_Y, "facts": FACTS}),
    (more.sure_pairs, {**AT_Y, "word": "one"}),
    (more.made_sure, {**OF_MOVING, "fact": FACTS[1]}),
    (more.fewest_aparts, AT_Y),
    (more.least_aparts, AT_Y),
    (more.fewest_facts, {**AT_Y, "value": 2}),
    (more.least_facts, {**AT_Y, "value": 1}),
    (more.are_facts_for, {**AT_Y, "value": 1, "thing": FACTS}),
    (more.fewest_to_same, {**TWO_ROWS, "other": MOVING[::-1]}),
    (more.least_to_same, {**TWO_ROWS, "other": MOVING[2:3] + MOVING[:2] + MOVING[3:]}),
    (probes.tells_all, OF_MOVING),
    (probes.how_many_told, OF_MOVING),
    (probes.told_parts, OF_MOVING),
    (probes.alike_told, OF_MOVING),
    (probes.is_alike_told, {**OF_MOVING, "thing": (NEAR, APART)}),
    (probes.is_cover, {"table": TABLE, "thing": ("d",)}),
    (probes.fewest_gets, {"table": TABLE}),
    (probes.least_cover, {"table": TABLE}),
    (probes.how_many_covers, {"table": TABLE}),
    (probes.probe_row, {"table": TABLE}),
    (probes.is_probe, {"table": TABLE, "thing": PROBE}),
    (probes.sameness_by, {"table": TABLE, "row": PROBE, "told": (("d", 2),)}),
    (probes.told_back, {"table": TABLE, "asker": lambda row: told_by(row, FAR)}),
    (readings.is_readings, {"table": TABLE, "thing": READINGS}),
    (readings.reading_of, {**OF_MOVING, "sameness": NEAR}),
    (readings.fits, {**READ, "sameness": NEAR}),
    (readings.all_that_fit, READ),
    (readings.how_many_fit, READ_ONE),
    (readings.first_lie, {**READ, "readings": READINGS + ((PROBE, (("d", 1),)),)}),
    (readings.ones_by, READ),
    (readings.aparts_by, READ_ONE),
    (readings.open_by, READ_ONE),
    (readings.table_by, READ),
    (readings.is_whole, READ_ONE),
    (readings.will_tell, {**READ_ONE, "row": PROBE}),
    (readings.parts_by, {**READ_ONE, "row": PROBE}),
    (readings.is_useless, {**READ_ONE, "row": MOVING}),
    (readings.worst_left, {**READ_ONE, "name": "c"}),
    (readings.next_get, READ_ONE),
    (readings.spare_readings, READ),
    (texts.table_text, {"table": TABLE}),
    (texts.table_in, {"text": "a b c d; a=b; b/c"}),
    (texts.row_text, {"row": MOVING}),
    (texts.row_in, {"text": "a:=1 c>x d:=-2"}),
    (texts.cells_text, {"cells": NEAR}),
    (texts.cells_in, {"text": "a b; c d"}),
    (desk.is_request, {"thing": "apart a b"}),
    (desk.replies, {"names": ("a", "b"), "text": "put a 1\nleft b\none a b\nsure"}),
)

# Calls that raise, with what they raise.
REFUSED = (
    (tables.lump_of, (TABLE, "x"), NoName, {"name": "x"}),
    (tables.told_of, (TABLE, "y", "x"), NoName, {"name": "y"}),
    (tables.with_name, (TABLE, "a"), Known, {"name": "a"}),
    (tables.with_one, (TABLE, "a", "c"), Unfit, {}),
    (tables.with_apart, (TABLE, "a", "b"), Unfit, {}),
    (tables.renamed, (TABLE, (("a", "c"),)), Unfit, {}),
    (samenesses.nth_sameness, (TABLE, 3), NoNumber, {"number": 3}),
    (samenesses.cell_of, (TABLE, NEAR, "x"), NoName, {"name": "x"}),
    (samenesses.joined_by, (TABLE, ("a", "c", "x")), NoName, {"name": "x"}),
    (samenesses.joined_by, (TABLE, ("a", "c")), CanNot, {}),
    (rows.told_at, (TABLE, ROW, NEAR, "u"), NoSpot, {"spot": "u"}),
    (rows.left_from, (TABLE, ROW, NEAR, "s"), NoName, {"name": "s"}),
    (rows.row_behind, (ROW, ROW[3:]), Unfit, {}),
    (rows.without_places, (ROW, (1, 5, 6)), NoNumber, {"number": 5}),
    (sure.seen_at, (TABLE, ROW, "u"), NoSpot, {"spot": "u"}),
    (sure.seen_left, (TABLE, ROW, "s"), NoName, {"name": "s"}),
    (sure.names_seeing, (TABLE, ROW, 1), NoNumber, {"number": 1}),
    (sure.is_sameness_for, (TABLE, ROW, "u", 5, NEAR), NoSpot, {"spot": "u"}),
    (sure.is_sameness_left, (TABLE, ROW, "u", 5, NEAR), NoName, {"name": "u"}),
    (orders.pointing_of, (TABLE, ("a", "x", "y")), NoName, {"name": "x"}),
    (orders.orders_same, (TABLE, ("a", "y"), ("x",)), NoName, {"name": "y"}),
    (orders.is_turn_way, (TABLE, ("a",), ("a", "x"), ORDER), NoName, {"name": "x"}),
    (orders.is_turn_way, (TABLE, ("a",), ("a", "b"), ORDER), Unfit, {}),
    (orders.nth_pointing, (TABLE, ("a", "z"), 9), NoName, {"name": "z"}),
    (orders.nth_pointing, (TABLE, ("a", "c"), 1), NoNumber, {"number": 1}),
    (orders.least_order, (TABLE, ("z",), POINTING), NoName, {"name": "z"}),
    (needless.can_go, (TABLE, ROW, (0, 5, 6)), NoNumber, {"number": 5}),
    (needless.is_needed_by, (TABLE, ROW, -1, NEAR), NoNumber, {"number": -1}),
    (needless.gone_by_turns, (TABLE, ROW, (0, 9, 5)), NoNumber, {"number": 9}),
    (moved.exchanged, (TABLE, MOVING, 5), NoNumber, {"number": 5}),
    (moved.exchanged, (TABLE, MOVING, 4), CanNot, {}),
    (moved.exchanged, (TABLE, MOVING, 1), CanNot, {}),
    (moved.keeps, (TABLE, MOVING, -1), NoNumber, {"number": -1}),
    (moved.keeps, (TABLE, MOVING, 4), CanNot, {}),
    (moved.deed_places, (TABLE, MOVING, ("get", "c", "y")), Unfit, {}),
    (plainrow.nth_alike, (TABLE, MOVING, 7), NoNumber, {"number": 7}),
    (plainrow.plain_joined, (TABLE, MOVING, MOVING[:2]), Unfit, {}),
    (more.told_more, (TABLE, (("one", "a", "c"),)), Unfit, {}),
    (more.can_tell, (TABLE, MOVING, "z", 1), NoSpot, {"spot": "z"}),
    (more.sure_with, (TABLE, MOVING, "z", (("one", "a", "c"),)), NoSpot, {"spot": "z"}),
    (more.sure_with, (TABLE, MOVING, "y", (("one", "a", "c"),)), Unfit, {}),
    (more.made_sure, (TABLE, MOVING, ("apart", "a", "b")), Unfit, {}),
    (more.least_facts, (TABLE, MOVING, "a", None), NoSpot, {"spot": "a"}),
    (more.are_facts_for, (TABLE, MOVING, "a", None, ()), NoSpot, {"spot": "a"}),
    (probes.sameness_by, (TABLE, PROBE, (("d", 7),)), CanNot, {}),
    (probes.sameness_by, (TABLE, PROBE[:3], ()), Unfit, {}),
    (readings.ones_by, (TABLE, (READINGS[1], (PROBE, (("d", 1),)))), Unfit, {}),
    (readings.worst_left, (TABLE, ((PROBE, ()),), "x"), NoName, {"name": "x"}),
    (readings.worst_left, (TABLE, ((PROBE, ()),), "a"), Unfit, {}),
    (readings.next_get, (TABLE, ((PROBE, ()),)), Unfit, {}),
    (texts.table_in, ("a b; a=b; a/b",), BadText, {}),
    (texts.row_in, ("a>s b>s",), BadText, {}),
    (texts.cells_in, ("b; a",), BadText, {}),
    (desk.replies, (("a", "b"), "row\nlook"), BadLine, {"number": 1}),
)


def variants(handed):
    """What is handed in, with lists for tuples in several ways; never in a thing."""
    for change in (as_lists, lambda value: in_turns(value, True), lambda value: in_turns(value, False),
                   lambda value: list(value) if isinstance(value, tuple) else value):
        yield {name: value if name == "thing" else change(value) for name, value in handed.items()}


def spoil(value):
    """Change the list, and each list in it, in every way."""
    if isinstance(value, list):
        for part in value:
            spoil(part)
        value.reverse()
        value.append("spoiled")
        value[0] = "spoiled"


def holds_list(value):
    return isinstance(value, list) or isinstance(value, tuple) and any(holds_list(part) for part in value)


class Rules(Case):
    def test_every_function_is_called_here(self):
        names = [name for listed in FUNCTIONS.values() for name in listed.replace(",", " ").split()]
        self.assertEqual([call.__name__ for call, _ in CALLS], names)

    def test_by_position_and_by_names(self):
        for call, handed in CALLS:
            wanted = call(*handed.values())
            self.same(call(**handed), wanted, call)
            self.same(call(**dict(reversed(list(handed.items())))), wanted, call)
            self.same(call(*list(handed.values())[:1], **dict(list(handed.items())[1:])), wanted, call)
            self.same(list(inspect.signature(call).parameters)[:len(handed)], list(handed), call)

    def test_lists_for_tuples(self):
        for call, handed in CALLS:
            wanted = call(*handed.values())
            for other in variants(handed):
                self.same(call(*other.values()), wanted, (call, other))
                self.same(call(**other), wanted, (call, other))

    def test_lists_are_no_tuples_in_a_thing(self):
        for call, handed in CALLS:
            if "thing" in handed:
                self.same(call(**handed), True, call)
                for change in (as_lists, lambda value: in_turns(value, True), lambda value: in_turns(value, False)):
                    other = change(handed["thing"])
                    # A tuple of strings alone holds no list, if lists begin one level below it.
                    self.same(call(**{**handed, "thing": other}), not holds_list(other), call)

    def test_lists_for_tuples_of_rows(self):
        for table, row in some_rows():
            many, turns = as_lists(row), in_turns(row, False)
            for call in (rows.names_in, rows.spots_of, rows.puts_of, rows.gets_of, rows.beginnings):
                self.same(call(many), call(row))
                self.same(call(turns), call(row))
            self.same(rows.how_many_outcomes(as_lists(table), many), rows.how_many_outcomes(table, row))
            self.same(rows.row_behind(many, []), row)
            self.same(rows.row_behind((), turns), row)
            self.same(rows.without_places(many, []), row)

    def test_arguments_stay_as_they_are(self):
        for call, handed in CALLS:
            for other in variants(handed):
                kept = copy.deepcopy(other)
                call(**other)
                self.same(other, kept, call)

    def test_refused_calls_change_nothing(self):
        for call, handed, error, attributes in REFUSED:
            other = as_lists(handed)
            kept = copy.deepcopy(other)
            self.refused(error, call, *handed, **attributes)
            self.refused(error, call, *other, **attributes)
            self.same(other, kept, call)

    def test_returned_lists_belong_to_the_caller(self):
        for call, handed in CALLS:
            for other in (handed, *variants(handed)):
                wanted = call(**handed)
                told = repr(wanted)
                kept = copy.deepcopy(other)
                spoil(call(**other))
                spoil(wanted)
                self.same(other, kept, call)
                self.assertEqual(repr(call(**other)), told, call)

    def test_changed_arguments_change_no_result(self):
        for call, handed in CALLS:
            for other in variants(handed):
                got = call(**other)
                told = repr(got)
                for value in other.values():
                    spoil(value)
                self.assertEqual(repr(got), told, call)

    def test_results_are_lists_of_what_holds_none(self):
        for call, handed in CALLS:
            got = call(**next(variants(handed)))
            for part in got if isinstance(got, list) else [got]:
                self.assertFalse(holds_list(part), call)

    def test_what_is_returned_may_be_handed_in(self):
        for first, second in itertools.combinations(samenesses.all_samenesses(TABLE), 2):
            self.same(samenesses.lies_within(samenesses.met(first, second), second), True)
        for begun in rows.beginnings(ROW):
            for pair in rows.all_outcomes(TABLE, begun):
                for sameness in rows.samenesses_for(TABLE, begun, pair):
                    self.same(rows.outcome(TABLE, begun, sameness), pair)
        self.same(tables.same_tables(tables.filled(TABLE), TABLE), True)
        self.same(rows.row_behind(rows.without_places(ROW, rows.gets_of(ROW)), ()), ROW[::2])
