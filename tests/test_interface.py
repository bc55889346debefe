"""The names, the parameters and the places of what DOC.md lists."""

import importlib
import inspect
import unittest

from looksfar.book import Book

FUNCTIONS = {
    "tasks": {
        "check_task": ["task"],
        "turned": ["task"],
        "row_allowed": ["task", "side", "number", "row"],
        "read_task": ["text"],
        "write_task": ["task"],
    },
    "views": {
        "all_views": ["D", "own", "other", "reach"],
        "all_branches": ["D", "own", "other", "reach", "colour"],
        "seen_through": ["view", "colour"],
        "reach_of": ["view"],
        "is_view": ["value", "D", "own", "other", "reach"],
    },
    "algorithms": {
        "check_algorithm": ["task", "algorithm"],
        "row_at": ["algorithm", "view"],
        "flaw_of": ["task", "algorithm"],
        "is_flaw": ["task", "algorithm", "flaw"],
    },
    "steps": {
        "less": ["task"],
        "sets_of": ["task"],
        "made_greatest": ["task", "number", "sets"],
    },
    "leading": {
        "led_down": ["task", "algorithm"],
        "led_up": ["task", "algorithm"],
    },
    "widening": {
        "farther": ["task", "algorithm"],
        "crossed": ["task", "algorithm"],
        "both": ["first", "second"],
        "parts_of": ["first", "second", "algorithm"],
    },
    "renaming": {
        "same_up_to_names": ["first", "second"],
    },
    "deciding": {
        "nowhere": ["task"],
        "solved": ["task", "reach"],
        "tidied": ["task"],
        "least_reach": ["task", "most"],
    },
    "easings": {
        "check_easing": ["first", "second", "easing"],
        "eased": ["first", "second", "easing", "algorithm"],
        "check_slow": ["task", "reach", "paper"],
        "slow_paper": ["task", "reach"],
        "check_never": ["task", "paper"],
        "never_paper": ["task", "most"],
    },
    "networks": {
        "check_network": ["network", "task"],
        "view_in": ["network", "side", "node", "reach"],
        "labelled": ["task", "network", "algorithm"],
        "is_content": ["task", "network", "rows"],
        "network_showing": ["task", "flaw"],
    },
    "quickness": {
        "check_quick": ["task", "reach", "paper"],
        "quick_algorithm": ["task", "paper"],
        "quick_paper": ["task", "reach"],
    },
    "kinds": {
        "check_plain": ["network"],
        "views_by_messages": ["network", "rounds"],
        "kinds": ["network"],
        "base_of": ["network"],
    },
    "covers": {
        "cover_of": ["network", "turns"],
        "content_rows": ["task", "network"],
        "even_rows": ["task", "network"],
    },
    "relays": {
        "relay": ["steps"],
    },
    "texts": {
        "read_algorithm": ["task", "text"],
        "write_algorithm": ["task", "algorithm"],
        "read_pairs": ["text"],
        "write_pairs": ["pairs"],
    },
}

CLASSES = {
    "errors": ["LookError", "BadTask", "BadAlgorithm", "BadNetwork", "BadReach", "BadEasing", "NoRows", "TooMany",
               "BadText"],
    "book": ["Book"],
}

BOOK = {
    "solve": ["task", "algorithm"],
    "bar": ["task", "reach", "paper"],
    "close": ["task", "paper"],
    "ease": ["first", "second", "easing"],
    "take_back": [],
    "bounds": ["task"],
}


class InterfaceTest(unittest.TestCase):

    def test_functions(self):
        for file, functions in FUNCTIONS.items():
            module = importlib.import_module("looksfar." + file)
            for name, parameters in functions.items():
                with self.subTest(file=file, name=name):
                    function = getattr(module, name)
                    self.assertTrue(inspect.isfunction(function))
                    self.assertEqual(function.__module__, module.__name__)
                    self.assertEqual(list(inspect.signature(function).parameters), parameters)

    def test_classes(self):
        for file, names in CLASSES.items():
            module = importlib.import_module("looksfar." + file)
            for name in names:
                with self.subTest(file=file, name=name):
                    self.assertTrue(inspect.isclass(getattr(module, name)))
                    self.assertEqual(getattr(module, name).__module__, module.__name__)

    def test_methods_of_a_book(self):
        for name, parameters in BOOK.items():
            with self.subTest(name):
                # Defined in the class itself, not only in a base class.
                method = vars(Book)[name]
                self.assertTrue(inspect.isfunction(method))
                self.assertEqual(list(inspect.signature(method).parameters), ["self"] + parameters)
        self.assertEqual(list(inspect.signature(Book).parameters), [])


if __name__ == "__main__":
    unittest.main()
