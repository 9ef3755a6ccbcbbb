"""Drawings of all kinds."""

from drawnorders.drawings import KINDS
from drawnorders.forest import draw_forest
from drawnorders.joins import draw_joins
from drawnorders.levels import draw_levels
from drawnorders.netarcs import draw_arcs
from drawnorders.spans import draw_spans
from drawnorders.tworows import draw_rows
from drawnorders.unit import draw_unit


def draw(order, kind):
    """True and a drawing of a kind that shows the order, or False and a paper against it."""
    match kind:
        case "levels":
            return draw_levels(order)
        case "forest":
            return draw_forest(order)
        case "joins":
            return draw_joins(order)
        case "arcs":
            return draw_arcs(order)
        case "spans":
            return draw_spans(order)
        case "unit":
            return draw_unit(order)
        case _:
            return draw_rows(order)


def kinds_of(order):
    """The kinds of which the order has a drawing, in the order of KINDS."""
    return [kind for kind in KINDS if draw(order, kind)[0]]
