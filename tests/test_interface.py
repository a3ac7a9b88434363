"""Promise 1 and the interface: every name is there, with its arguments by their places."""

import importlib
import inspect
import unittest

FUNCTIONS = {
    "rows": {
        "is_row": ["thing"], "steps_of": ["numbers"], "bends_of": ["numbers"], "bends_one_way": ["numbers"],
        "first_wrong": ["numbers"], "are_bent_fractions": ["thing"], "how_far": ["measure", "numbers", "fractions"],
    },
    "below": {"greatest_below": ["numbers"], "touching_places": ["numbers"]},
    "counted": {"how_many_within": ["bounds"], "is_there_one": ["bounds"]},
    "bynumber": {"nth_within": ["bounds", "i"], "number_of": ["bounds", "numbers"]},
    "fewest": {"fewest_bends": ["bounds"]},
    "greatest": {
        "least_greatest": ["numbers"], "nearest_by_greatest": ["numbers"], "three_that_show": ["numbers"],
        "what_three_show": ["numbers", "places"],
    },
    "changed": {"fewest_changed": ["numbers"], "can_stay": ["numbers", "places"], "bent_with": ["numbers", "places"]},
    "sums": {"nearest_by_sum": ["numbers"], "what_prices_show": ["numbers", "prices"]},
    "squares": {"nearest_by_squares": ["numbers"], "is_nearest_by_squares": ["numbers", "fractions"]},
    "keeper": {"Keeper": ["numbers"]},
    "texts": {
        "show_row": ["numbers"], "read_row": ["text"], "show_fractions": ["fractions"], "read_fractions": ["text"],
    },
    "desk": {"Desk": []},
}

METHODS = {
    ("keeper", "Keeper"): {
        "put": ["number"], "back": [], "row": [], "bends_one_way": [], "least_greatest": [], "fewest_changed": [],
    },
    ("desk", "Desk"): {"say": ["row"], "names": []},
}


class Interface(unittest.TestCase):

    def test_functions_and_classes(self):
        for module, names in FUNCTIONS.items():
            found = importlib.import_module("onebend." + module)
            for name, arguments in names.items():
                with self.subTest(module=module, name=name):
                    thing = getattr(found, name)
                    self.assertEqual(thing.__module__, "onebend." + module)
                    self.assertEqual(list(inspect.signature(thing).parameters), arguments)

    def test_methods_stand_in_the_class_itself(self):
        for (module, name), methods in METHODS.items():
            found = getattr(importlib.import_module("onebend." + module), name)
            for method, arguments in methods.items():
                with self.subTest(name=name, method=method):
                    self.assertEqual(list(inspect.signature(vars(found)[method]).parameters), ["self"] + arguments)


if __name__ == "__main__":
    unittest.main()
