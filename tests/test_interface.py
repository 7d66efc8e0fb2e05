"""The interface: each name is defined in its file, and each method in the body of its class."""

import ast
import unittest
from pathlib import Path

PACKAGE = Path(__file__).resolve().parent.parent / "everybowl"

FUNCTIONS = {
    "choices": {"choose": ["n", "k"], "subsets": ["n", "size"]},
    "tables": {"spread": ["row"], "gather": ["row"], "bends": ["row"], "unbend": ["row"]},
    "turns": {"doubled_area": ["p", "q", "r"], "height_sign": ["p", "q", "r", "s"],
              "ring_sign": ["p", "q", "r", "s"]},
    "changes": {"moved": ["floor", "dx", "dy"], "sheared": ["floor", "k"], "scaled": ["floor", "m"],
                "mirrored": ["floor"], "quartered": ["floor"]},
    "linerows": {"line_row": ["floor"], "lines_with": ["floor", "count"], "corner_row": ["floor"],
                 "round_point": ["floor", "number"]},
    "fours": {"inner_of": ["floor", "a", "b", "c", "d"], "split": ["floor", "a", "b", "c", "d"],
              "inner_pairs": ["floor"], "convex_fours": ["floor"]},
    "rims": {"corners": ["floor"], "rim": ["floor"], "rim_area": ["floor"]},
    "holds": {"held_by": ["floor", "number"], "line_past": ["floor", "number"]},
    "nets": {"lower_net": ["raised"], "upper_net": ["raised"], "net_points": ["raised"], "body_corners": ["raised"],
             "net_change": ["raised", "point", "height"]},
    "touches": {"touching": ["raised", "number"], "first_high": ["raised"], "is_bowl": ["raised"]},
    "floortexts": {"write_floor": ["floor"], "write_raised": ["raised"], "read_floor": ["text"],
                   "read_raised": ["text"]},
    "circles": {"circle": ["floor", "a", "b", "c"], "inside_circle": ["floor", "a", "b", "c"]},
    "planerows": {"plane_row": ["raised"], "planes_with": ["raised", "count"], "side_row": ["raised"],
                  "pole_row": ["raised", "number"], "high_row": ["raised"], "deep_row": ["raised"],
                  "inner_row": ["raised"], "net_row": ["raised"]},
    "pencils": {"pencil": ["raised", "a", "b"], "pencil_sets": ["raised", "a", "b"]},
    "means": {"mean_corners": ["floor", "size"], "mean_triangles": ["raised", "size"],
              "mean_net_points": ["raised", "size"]},
    "patterns": {"barred_part": ["raised", "a", "b", "c", "d"], "barred_four": ["raised", "subset"],
                 "crossed_four": ["floor", "subset"]},
    "lowered": {"is_lowered": ["raised", "subset"], "lowered": ["raised", "size"], "lowered_counts": ["raised"],
                "plane_for": ["raised", "subset"]},
    "cuts": {"is_cut": ["floor", "subset"], "cuts": ["floor", "size"], "cut_counts": ["floor"],
             "line_for": ["floor", "subset"]},
    "exchanges": {"neighbours": ["raised", "subset"], "neighbour_counts": ["raised"],
                  "walk": ["raised", "first", "last"]},
    "prices": {"costs": ["raised", "alpha", "beta"], "cheapest": ["raised", "alpha", "beta", "size"],
               "prices_for": ["raised", "subset"], "price_steps": ["raised", "start", "goal", "size"]},
    "spotrows": {"height_row": ["raised", "spot"], "low_triangle": ["raised", "spot"],
                 "high_triangle": ["raised", "spot"]},
    "nearest": {"nearest": ["floor", "x", "y", "size"], "hoop": ["floor", "subset"]},
    "turning": {"turning": ["floor"], "orders": ["floor"], "exchange_places": ["floor"],
                "read_turns": ["order", "pairs"]},
    "kinds": {"kind_of": ["floor"], "renamings": ["first", "second"]},
    "floorways": {"floor_events": ["floor", "number", "x", "y"], "travelled": ["floor", "number", "x", "y"]},
    "heightways": {"height_events": ["raised", "number", "height"], "lifted": ["raised", "number", "height"]},
    "scripts": {"read_script": ["text"], "write_script": ["steps"], "run_script": ["desk", "steps", "whole="]},
    "papers": {"corner_paper": ["floor", "number"], "cut_paper": ["floor", "subset"],
               "under_paper": ["raised", "subset"], "touch_paper": ["raised", "number"], "bowl_paper": ["raised"],
               "hoop_paper": ["floor", "subset"], "write_paper": ["paper"], "read_paper": ["text"]},
    "judge": {"accepts": ["raised", "paper"], "accepted": ["raised", "*papers"]},
    "sheets": {"row_sheet": ["rows"], "event_sheet": ["events"]},
}

CLASSES = {
    "ratios": {"Ratio": {
        "__init__": ["self", "top", "bottom"], "read": ["cls", "text"], "divided": ["self", "other"],
        "less": ["self", "other"], "sign": ["self"], "text": ["self"],
        "__add__": ["self", "other"], "__radd__": ["self", "other"], "__sub__": ["self", "other"],
        "__rsub__": ["self", "other"], "__mul__": ["self", "other"], "__rmul__": ["self", "other"],
        "__neg__": ["self"], "__abs__": ["self"], "__eq__": ["self", "other"]}},
    "floors": {"Floor": {
        "__init__": ["self", "points"], "of": ["cls", "*points"], "area": ["self", "a", "b", "c"],
        "turn": ["self", "a", "b", "c"], "left_of": ["self", "a", "b"], "only": ["self", "numbers"],
        "without": ["self", "number"], "plus": ["self", "point"], "__len__": ["self"], "__iter__": ["self"],
        "__getitem__": ["self", "at"], "__contains__": ["self", "x"], "__eq__": ["self", "other"]}},
    "raised": {"Raised": {
        "__init__": ["self", "floor", "heights"], "over": ["self", "a", "b", "c", "d"],
        "below": ["self", "a", "b", "c"], "above": ["self", "a", "b", "c"], "plane": ["self", "a", "b", "c"],
        "only": ["self", "numbers"], "without": ["self", "number"], "plus": ["self", "point", "height"],
        "tilted": ["self", "a", "b", "c"], "__len__": ["self"], "__neg__": ["self"], "__eq__": ["self", "other"]}},
    "bowls": {"Bowl": {
        "__init__": ["self", "floor", "heights"], "circular": ["cls", "floor"], "only": ["self", "numbers"],
        "without": ["self", "number"], "plus": ["self", "point", "height"], "tilted": ["self", "a", "b", "c"],
        "__add__": ["self", "other"], "__mul__": ["self", "other"], "__or__": ["self", "other"]}},
    "hub": {"Rows": {
        "of": ["cls", "floor"], "made": ["cls", "form", "row"], "fours": ["self"], "convex": ["self"],
        "__call__": ["self", "form"], "__eq__": ["self", "other"]}},
    "spots": {"Spot": {
        "__init__": ["self", "floor", "x", "y", "scale="], "inside": ["self"], "row": ["self"],
        "triangles": ["self"], "around": ["self", "size"]}},
    "kinds": {"Kind": {"__eq__": ["self", "other"]}},
    "floorways": {"Event": {}, "FloorEvent": {
        "line_change": ["self"], "fours_change": ["self"], "plane_change": ["self"]}},
    "heightways": {"HeightEvent": {"plane_change": ["self"], "high_change": ["self"]}},
    "desks": {"Desk": {
        "__init__": ["self", "floor", "heights"], "lines": ["self"], "planes": ["self"], "highs": ["self"],
        "add": ["self", "x", "y", "height"], "drop": ["self", "number"], "move": ["self", "number", "x", "y"],
        "lift": ["self", "number", "height"], "undo": ["self"], "redo": ["self"], "set_limit": ["self", "limit"],
        "__len__": ["self"]}},
}


def tree_of(module):
    return ast.parse((PACKAGE / f"{module}.py").read_text(encoding="ascii"))


def named(tree, kind):
    return {node.name: node for node in tree.body if isinstance(node, kind)}


def parameters(function):
    """The names of the parameters; those that are passed by keyword end in a sign of equality."""
    given = function.args
    names = [arg.arg for arg in given.posonlyargs + given.args]
    names += [f"*{given.vararg.arg}"] if given.vararg else []
    return names + [f"{arg.arg}=" for arg in given.kwonlyargs]


class Interface(unittest.TestCase):
    def test_functions(self):
        for module, functions in FUNCTIONS.items():
            found = named(tree_of(module), ast.FunctionDef)
            for name, wanted in functions.items():
                self.assertEqual(parameters(found[name]), wanted, f"{module}.{name}")

    def test_methods(self):
        for module, classes in CLASSES.items():
            found = named(tree_of(module), ast.ClassDef)
            for word, methods in classes.items():
                own = named(found[word], ast.FunctionDef)
                for name, wanted in methods.items():
                    self.assertEqual(parameters(own[name]), wanted, f"{word}.{name}")

    def test_package_is_bare(self):
        self.assertEqual([node.__class__ for node in tree_of("__init__").body], [ast.Expr])
