"""The interface: each name with its arguments, in the module where it is told."""

import importlib
import inspect
import unittest

INTERFACE = {
    "places": {"made_place": "row column", "place_name": "place", "read_place": "text"},
    "areas": {"made_area": "top left bottom right", "area_name": "area", "area_places": "area", "read_area": "text",
              "within": "area place", "area_many": "area"},
    "formulas": {"made_formula": "formula", "piece_many": "formula", "depth_of": "formula", "named_in": "formula"},
    "formulatext": {"formula_text": "formula", "read_formula": "text"},
    "worths": {"single": "word one", "paired": "op one other", "gathered": "word worths", "is_fault": "worth",
               "same_worth": "one other"},
    "looks": {"look_at": "formula worths waiting", "places_read": "reads"},
    "sheets": {"made_sheet": "cells", "with_cells": "sheet changes", "formula_places": "sheet"},
    "fresh": {"fresh_book": "sheet", "worths_by": "sheet book", "waiting_in": "book", "stands": "sheet book place"},
    "judge": {"right_book": "sheet book", "round_read": "sheet book"},
    "rings": {"rings_in": "book", "way_to_ring": "book place", "ranks_by": "sheet book"},
    "waves": {"wave_of": "sheet book changes", "turned_places": "sheet book sheet_now book_now"},
    "causes": {"touched": "sheet book sheet_now book_now", "right_wave": "sheet book changes book_now wave"},
    "shifts": {"made_shift": "way at many", "back_shift": "shift", "moved_place": "shift place", "moved_area": "shift area"},
    "turned": {"turned": "shift formula", "shifted": "sheet shift"},
    "carried": {"is_plain": "sheet shift", "carried": "book shift", "readied": "sheet shift", "shift_wave": "sheet book shift"},
    "copies": {"copied": "formula here there", "block_changes": "sheet area place"},
    "forms": {"form_of": "formula place", "formula_by": "form place", "alike": "one here other there", "heaps_of": "sheet"},
    "support": {"support_of": "book place", "agree": "sheet other places", "behind": "book place"},
    "chains": {"chain": "book place cell", "causes_back": "book wave place"},
    "tables": {"table_of": "worths waiting area", "column_of": "table head", "fitting": "table head op key",
               "order_by": "table by", "right_order": "table by numbers", "rows_taken": "table numbers",
               "put_table": "sheet place table"},
    "groups": {"groups_by": "table head", "sums_by": "table head word other",
               "sums_on": "table sums further head word other", "paired_rows": "table head further other"},
    "halves": {"tally_of": "worths", "put_together": "one other", "told_by": "word tally", "made_halves": "worths",
               "cover": "many low high", "stretch_tally": "halves low high", "with_worth": "halves number worth"},
    "deeds": {"deed_wave": "sheet book deed", "writes": "deed", "takes": "deed", "meet": "one other"},
    "keeper": {"Keeper": "sheet"},
    "sheettext": {"sheet_text": "sheet", "read_sheet": "text", "worth_text": "standing"},
    "desk": {"Desk": "text"},
}
METHODS = {
    ("keeper", "Keeper"): {"do": "deed", "back": "", "again": "", "sheet_now": "", "book_now": "", "deeds": ""},
    ("desk", "Desk"): {"ask": "row", "text": ""},
}


class Interface(unittest.TestCase):
    def test_names_and_arguments(self):
        for module, functions in INTERFACE.items():
            found = importlib.import_module("onelook." + module)
            for name, arguments in functions.items():
                told = inspect.signature(getattr(found, name)).parameters
                self.assertEqual(list(told), arguments.split(), (module, name))

    def test_methods(self):
        for (module, name), methods in METHODS.items():
            found = getattr(importlib.import_module("onelook." + module), name)
            for method, arguments in methods.items():
                told = inspect.signature(getattr(found, method)).parameters
                self.assertEqual(list(told), ["self"] + arguments.split(), (name, method))


if __name__ == "__main__":
    unittest.main()
