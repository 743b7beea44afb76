"""Point 19, and point 2 on error classes: what is defined where, and under which names."""

import ast
import importlib
import pathlib

from aliasrows import errors
from tests.helper import BOUND, Case

FUNCTIONS = {
    "tables": """is_table, names_of, lumps, lump_of, surely_one, surely_apart, may_be_one, told_of, maybe_with,
        open_pairs, with_name, without_name, with_one, with_apart, without_pair, renamed, filled, same_tables""",
    "samenesses": """is_sameness, finest, coarsest, all_samenesses, how_many_samenesses, nth_sameness,
        number_of_sameness, how_many_with, fewest_cells, a_fewest, cell_of, are_one, joined_by, can_join,
        great_joins, lies_within, met, put_as_one, between""",
    "rows": """is_row, names_in, spots_of, puts_of, gets_of, outcome, told_at, left_at, left_along, read_from,
        left_from, lost_puts, all_outcomes, how_many_outcomes, samenesses_for, row_behind, without_places,
        beginnings""",
    "sure": """seen_at, seen_left, empty_at, empty_left, values_at, values_left, sure_spots, sure_names, sure_told,
        spots_seeing, names_seeing, never_seen, tellings, how_many_tell, sameness_for, sameness_left,
        is_sameness_for, is_sameness_left""",
    "beside": """same_rows, parting, is_parting, partings, fewest_joined, alike_spots, alike_names, unlike_spots,
        unlike_names, tells_as_much, untold_pair, is_untold_pair, same_whatever, parting_ahead, is_parting_ahead""",
    "orders": """is_order, row_of_order, pointing_of, is_pointing, orders_same, parting_sameness,
        is_parting_sameness, all_pointings, how_many_pointings, nth_pointing, number_of_pointing, least_order,
        how_many_orders, fewest_turns, turn_way, is_turn_way, free_places""",
    "needless": """can_go, is_needless, needless_places, needed_by, is_needed_by, all_that_go, full_sets,
        always_stay, most_gone, least_rest, dearest_gone, all_rests, gone_by_turns, twin_spots, spare_gets""",
    "moved": """can_pass, exchanged, passing_places, keeps, are_alike, exchanges_between, way_between, is_way_between,
        held_pairs, longest_held, deed_places, is_steps, fewest_steps, first_steps, last_steps""",
    "plainrow": """plain_row, is_plain, how_many_alike, nth_alike, number_alike, alike_rows, how_many_at,
        how_many_forms, forms, is_form, plain_joined, begins_with, rest_behind, plain_begun, common_beginning""",
    "more": """is_fact, are_facts, told_more, needless_facts, can_tell, is_sure_of, sure_with, sure_pairs, made_sure,
        fewest_aparts, least_aparts, fewest_facts, least_facts, are_facts_for, fewest_to_same, least_to_same""",
    "probes": """tells_all, how_many_told, told_parts, alike_told, is_alike_told, is_cover, fewest_gets, least_cover,
        how_many_covers, probe_row, is_probe, sameness_by, told_back""",
    "readings": """is_readings, reading_of, fits, all_that_fit, how_many_fit, first_lie, ones_by, aparts_by, open_by,
        table_by, is_whole, will_tell, parts_by, is_useless, worst_left, next_get, spare_readings""",
    "texts": "table_text, table_in, row_text, row_in, cells_text, cells_in",
    "desk": "is_request, replies",
}
ERRORS = {
    "NoName": (LookupError, "name"), "NoSpot": (LookupError, "spot"), "NoNumber": (LookupError, "number"),
    "Known": (ValueError, "name"), "CanNot": (ValueError, None), "Unfit": (ValueError, None),
    "BadText": (ValueError, None), "BadLine": (ValueError, "number"),
}


def defined(file, kind):
    """The names that the file defines by statements of this kind, not within others."""
    module = importlib.import_module("aliasrows." + file)
    tree = ast.parse(pathlib.Path(module.__file__).read_text(encoding="utf-8"))
    return [part.name for part in tree.body if isinstance(part, kind)]


class Interface(Case):
    def test_functions_are_defined_in_their_files(self):
        for file, names in FUNCTIONS.items():
            there = defined(file, ast.FunctionDef)
            module = importlib.import_module("aliasrows." + file)
            for name in names.replace(",", " ").split():
                with self.subTest(file=file, name=name):
                    self.assertIn(name, there)
                    self.assertEqual(getattr(module, name).__name__, name)

    def test_the_class_is_defined_in_its_file(self):
        self.assertIn("Board", defined("board", ast.ClassDef))
        self.assertEqual(importlib.import_module("aliasrows.board").Board.__bases__, (object,))

    def test_errors_are_defined_in_their_file(self):
        there = defined("errors", ast.ClassDef)
        for name in ERRORS:
            self.assertIn(name, there)

    def test_errors_are_direct_subclasses(self):
        for name, (base, _) in ERRORS.items():
            self.assertEqual(getattr(errors, name).__bases__, (base,), name)

    def test_errors_keep_their_values(self):
        for name, (_, attribute) in ERRORS.items():
            kind = getattr(errors, name)
            if attribute is None:
                self.assertIsInstance(kind(), kind)
                continue
            for value in ("x", "", "a b", 0, -1, BOUND, 10 ** 5000):
                self.assertTrue(getattr(kind(value), attribute) == value, name)
                self.assertTrue(getattr(kind(**{attribute: value}), attribute) == value, name)

    def test_errors_are_caught_by_their_names(self):
        for name, (base, attribute) in ERRORS.items():
            kind = getattr(errors, name)
            for caught in (kind, base):
                with self.assertRaises(caught):
                    raise kind() if attribute is None else kind("x")
            others = tuple(getattr(errors, other) for other in ERRORS if other != name)
            self.assertNotIsInstance(kind() if attribute is None else kind("x"), others)
