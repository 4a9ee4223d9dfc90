"""The names and arguments of the interface, each defined in its own file."""

import importlib
import inspect
import unittest

FUNCTIONS = {
    "commonweb.webs": {
        "is_web": ["thing"],
        "tie_of": ["web", "one", "other"],
        "neighbours": ["web", "place"],
        "parts": ["web"],
        "hangs": ["web"],
        "cut": ["web", "places"],
    },
    "commonweb.leads": {
        "is_lead": ["one", "other", "thing"],
        "lies": ["one", "other", "lead"],
        "led_ties": ["one", "other", "lead"],
        "is_piece": ["one", "other", "lead", "how", "together"],
        "size_of": ["one", "other", "lead", "how"],
    },
    "commonweb.fits": {
        "pairs": ["one", "other"],
        "fit": ["one", "other", "pair", "beside"],
    },
    "commonweb.lying": {
        "greatest_lying": ["one", "other"],
        "count_lying": ["one", "other"],
    },
    "commonweb.byties": {
        "greatest_by_ties": ["one", "other"],
        "count_by_ties": ["one", "other"],
    },
    "commonweb.together": {
        "together_lying": ["one", "other"],
        "together_by_ties": ["one", "other"],
    },
    "commonweb.counts": {
        "by_kinds": ["one", "other"],
        "by_tie_kinds": ["one", "other"],
        "by_degrees": ["one", "other"],
        "ties_bound": ["one", "other"],
    },
    "commonweb.papers": {
        "paper_of": ["one", "other"],
        "says": ["one", "other", "thing"],
    },
    "commonweb.matchings": {
        "best_matching": ["table"],
        "is_best": ["table", "thing"],
    },
    "commonweb.trees": {
        "is_tree": ["web"],
        "common_tree": ["one", "other"],
        "middle": ["tree"],
    },
    "commonweb.lines": {
        "shape_of": ["web"],
        "along": ["web"],
        "common_stretch": ["one", "other"],
    },
    "commonweb.sameness": {
        "same_lead": ["one", "other"],
        "plain": ["web"],
        "onto_itself": ["web"],
        "marks": ["web"],
    },
    "commonweb.shares": {
        "distance": ["one", "other"],
        "joined_size": ["one", "other"],
        "nearest": ["web", "webs"],
    },
    "commonweb.several": {
        "common_of": ["webs"],
    },
    "commonweb.changes": {
        "done": ["web", "deeds"],
        "least_changes": ["one", "other"],
    },
    "commonweb.texts": {
        "show_web": ["web"],
        "read_web": ["text"],
    },
}
CLASSES = {
    "commonweb.errors": [
        "WebError", "NoTable", "NoTree", "NoShape", "NoWebs", "NoDeed", "NoText", "NoRow",
    ],
    "commonweb.desk": ["Desk"],
}


class Interface(unittest.TestCase):
    def test_functions_have_their_arguments_and_files(self):
        for module_name, functions in FUNCTIONS.items():
            module = importlib.import_module(module_name)
            for name, arguments in functions.items():
                with self.subTest(module=module_name, name=name):
                    function = getattr(module, name)
                    self.assertTrue(inspect.isfunction(function))
                    self.assertEqual(function.__module__, module_name)
                    self.assertEqual(list(inspect.signature(function).parameters), arguments)

    def test_classes_have_their_files(self):
        for module_name, names in CLASSES.items():
            module = importlib.import_module(module_name)
            for name in names:
                with self.subTest(module=module_name, name=name):
                    self.assertTrue(inspect.isclass(getattr(module, name)))
                    self.assertEqual(getattr(module, name).__module__, module_name)

    def test_the_desk_has_its_method(self):
        desk = importlib.import_module("commonweb.desk").Desk
        self.assertEqual(list(inspect.signature(desk).parameters), [])
        self.assertTrue(inspect.isfunction(vars(desk)["say"]))
        self.assertEqual(list(inspect.signature(desk.say).parameters), ["self", "row"])


if __name__ == "__main__":
    unittest.main()
