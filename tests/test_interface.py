"""The interface of the document: names, arguments and places, for the modules that are there."""

import importlib
import inspect
import unittest

FUNCTIONS = {
    "order": {"same": ["one", "other"]},
    "making": {
        "dual": ["order"], "renamed": ["order", "names"], "part": ["order", "members"],
        "beside": ["orders"], "stacked": ["orders"], "product": ["one", "other"]},
    "levels": {"heights": ["order"], "levels": ["order"], "longest_chain": ["order"], "draw_levels": ["order"]},
    "forest": {"draw_forest": ["order"]},
    "joins": {"draw_joins": ["order"]},
    "netarcs": {"draw_arcs": ["order"]},
    "trees": {
        "elements_in": ["tree"], "tree_rows": ["tree"], "tree_lots": ["tree"], "tree_width": ["tree"],
        "tree_height": ["tree"], "match_trees": ["one", "other"]},
    "spans": {"draw_spans": ["order"], "end_count": ["order"]},
    "unit": {
        "draw_unit": ["order"], "least_length": ["order"], "shows_length": ["order", "length", "ring"]},
    "tworows": {"draw_rows": ["order"]},
    "drawings": {"order_of": ["kind", "drawing"]},
    "kinds": {"draw": ["order", "kind"], "kinds_of": ["order"]},
    "judge": {"takes": ["order", "kind", "verdict", "paper"]},
    "manyrows": {
        "draw_many": ["order", "count"], "least_rows": ["order"],
        "takes_many": ["order", "count", "verdict", "paper"]},
    "lots": {
        "lots": ["order"], "lot_count": ["order"], "is_lot": ["order", "members"], "closed_lot": ["order", "members"],
        "order_of_lots": ["size", "rows"]},
    "rows": {
        "is_row": ["order", "row"], "row_count": ["order"], "row_at": ["order", "number"], "row_number": ["order", "row"],
        "rows": ["order", "start"], "place_counts": ["order"], "swaps": ["one", "other"]},
    "width": {
        "fewest_chains": ["order"], "width": ["order"], "lowest_widest": ["order"], "highest_widest": ["order"],
        "is_chain": ["order", "members"], "is_antichain": ["order", "members"],
        "shows_width": ["order", "chains", "members"]},
    "shape": {
        "chain_cover": ["order", "count"], "antichain_cover": ["order", "count"], "shape": ["order"],
        "shows_chain_cover": ["order", "count", "chains", "antichains"],
        "shows_antichain_cover": ["order", "count", "antichains", "chains"]},
    "texts": {"write_order": ["order"], "read_order": ["lines"]},
}

ORDER_METHODS = {
    "__init__": ["size", "pairs"], "below": ["low", "high"], "apart": ["one", "other"],
    "__iter__": [], "pairs": [], "covers": [], "above": ["element"], "under": ["element"],
    "upper_covers": ["element"], "lowest": [], "highest": [],
}


class InterfaceTest(unittest.TestCase):

    def test_functions_stand_in_their_files_with_their_arguments(self):
        for name, functions in FUNCTIONS.items():
            module = importlib.import_module("drawnorders." + name)
            for function, arguments in functions.items():
                found = getattr(module, function)
                self.assertEqual(found.__module__, module.__name__)
                self.assertEqual(list(inspect.signature(found).parameters), arguments)

    def test_the_class_order(self):
        module = importlib.import_module("drawnorders.order")
        self.assertEqual(module.Order.__module__, module.__name__)
        for method, arguments in ORDER_METHODS.items():
            found = vars(module.Order)[method]
            self.assertEqual(list(inspect.signature(found).parameters), ["self"] + arguments)
        self.assertIn("__contains__", vars(module.Order))
        self.assertIsInstance(vars(module.Order)["size"], property)


if __name__ == "__main__":
    unittest.main()
