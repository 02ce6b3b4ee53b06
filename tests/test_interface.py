"""The interface of the document: names and arguments as they stand there."""

import importlib
import inspect
import unittest

TOLD = {
    "fractions": {
        "is_fraction": ["thing"], "fraction": ["n", "d"], "added": ["one", "other"],
        "taken": ["one", "other"], "times": ["one", "other"], "over": ["one", "other"],
        "compared": ["one", "other"], "root_of": ["one"],
    },
    "points": {
        "plus": ["one", "other"], "minus": ["one", "other"], "scaled": ["vector", "by"],
        "dot": ["one", "other"], "cross": ["one", "other"], "left_of": ["vector"],
        "length_of": ["vector"], "unit_of": ["vector"],
    },
    "turns": {
        "turned": ["unit", "by"], "quarters_between": ["one", "other", "steps"],
        "units_between": ["one", "other", "steps"], "least_dot": ["units"],
        "tip_of": ["one", "other"],
    },
    "paths": {
        "is_path": ["thing"], "ends_of": ["path"], "is_closed": ["path"],
        "radius_of": ["path", "number"], "headings": ["path", "number"], "corners": ["path"],
        "turned_about": ["path"], "mirrored": ["path"], "moved": ["path", "vector"],
    },
    "near": {"apart": ["path", "number", "point"], "is_near": ["path", "point", "by"]},
    "blocks": {"blocks": ["path", "far", "steps"], "most_off": ["path", "far", "steps"]},
    "patches": {
        "rim": ["blocks", "marks"], "size_of": ["blocks"], "is_in": ["blocks", "point"],
        "is_within": ["block", "point"], "is_clear": ["blocks", "begin", "end"],
    },
    "ways": {
        "stretches": ["path", "side", "far", "steps"], "ways": ["path", "side", "far", "steps"],
        "left_out": ["path", "side", "far", "steps"],
        "shows_left_out": ["path", "side", "far", "steps", "thing"],
    },
    "leads": {
        "lead_in": ["path", "side", "far", "steps", "way", "long"],
        "lead_out": ["path", "side", "far", "steps", "way", "long"],
        "turned_to": ["way", "number"], "led": ["path", "side", "far", "steps", "long"],
    },
    "rounds": {"rounds": ["path", "side", "far", "step", "many", "steps"]},
    "cuts": {
        "is_cut": ["ways", "far", "point"], "cut_bounds": ["ways", "far", "steps"],
        "corners_left": ["path", "side", "far", "steps"],
    },
    "texts": {
        "fraction_text": ["one"], "fraction_from": ["text"], "path_text": ["path"], "path_from": ["text"],
    },
    "desk": {"answers": ["text"]},
    "errors": {"BadSheet": ["row"]},
}


class Interface(unittest.TestCase):
    def test_names_and_arguments(self):
        for file, names in TOLD.items():
            module = importlib.import_module(f"sidecut.{file}")
            for name, arguments in names.items():
                taken = inspect.signature(getattr(module, name)).parameters.values()
                self.assertEqual([one.name for one in taken], arguments, name)
                for one in taken:
                    self.assertIs(one.kind, inspect.Parameter.POSITIONAL_OR_KEYWORD, name)
                    self.assertIs(one.default, inspect.Parameter.empty, name)
